/- What the reference's Decode answers, for all bytes. -/
import Derived.Test.YthifejdphflfpaaDoorREnc
import Derived.Test.YthifejdphflfpaaDoorRefW
import Derived.Test.YthifejdphflfpaaDoorRef2
import Derived.Test.YthifejdphflfpaaDoorBackM
import Derived.Test.YthifejdphflfpaaDoorMonoT
namespace Go.Proofs.YthifejdphflfpaaDoor
open Go.RowKit Go.Sort
theorem dec_par {s : ByteArray} {L : List Nm} (hp : parS s = some L) : decE s = (if rightL L = true then 0 else 2) ∧ decL s = if rightL L = true then L else [] :=
  ⟨by unfold decE; rw [hp], by unfold decL; rw [hp]⟩
theorem dec_none {s : ByteArray} (hp : parS s = none) : decE s = 2 ∧ decL s = [] :=
  ⟨by unfold decE; rw [hp], by unfold decL; rw [hp]⟩
theorem dec_bad {s : ByteArray} {A T : List (Nm × Bool)} {x : Nm × Bool} (h : allEn s = A ++ x :: T) (hb : x.2 = false ∨ goodN x.1 = false) : decE s = 2 ∧ decL s = [] := by
  have hx : x ∈ allEn s := by rw [h]; simp
  by_cases hc : s.size ≤ 4096 ∧ (allEn s).all (·.2) = true
  · have hp : parS s = some ((allEn s).map (·.1)) := by unfold parS; rw [if_pos hc]
    have hw := List.all_eq_true.1 hc.2 x hx
    rcases hb with hb | hb
    · rw [hb] at hw; cases hw
    · have hr : rightL ((allEn s).map (·.1)) = false := by
        cases hr : rightL ((allEn s).map (·.1))
        · rfl
        · have := ((right_iff _).1 hr).1 x.1 (List.mem_map.2 ⟨x, hx, rfl⟩)
          rw [hb] at this; cases this
      obtain ⟨h1, h2⟩ := dec_par hp
      rw [hr] at h1 h2
      exact ⟨h1, h2⟩
  · exact dec_none (by unfold parS; rw [if_neg hc])
theorem dec_end {s : ByteArray} {L : List Nm} (h : allEn s = L.map fun m => (m, true)) (hs : s.size ≤ 4096) : decE s = (if rightL L = true then 0 else 2) ∧ decL s = if rightL L = true then L else [] := by
  have e : (allEn s).map (·.1) = L := by rw [h, List.map_map]; exact List.map_id _
  have ha : (allEn s).all (·.2) = true := by rw [h]; simp
  have hp := dec_par (s := s) (L := (allEn s).map (·.1)) (by unfold parS; rw [if_pos ⟨hs, ha⟩])
  rwa [e] at hp
theorem ext_end (s : ByteArray) (a : Nat) : (s.extract a s.size).data.toList = s.data.toList.drop a := by
  rw [ext_list, List.take_of_length_le]
  simp
theorem bw_below (w : World) (e : TypeId) (s : ByteArray) : Below w.heap.size w (Lib.bytesWorld w e s) :=
  ⟨rfl, rfl, rfl, by rw [Lib.bytesWorld_size]; omega, fun k hk => Lib.bytesWorld_at_old w e s k hk⟩
/-- A new row of one entry. -/
def OneN (m : Nm) (v : Value) (Xn : World) : Prop := ∃ g : Nat, v = .slice (some ⟨g, 0, none⟩) 1 1 ∧ g < Xn.heap.size ∧ NmAt Xn g 0 m
theorem OneN.mono {m : Nm} {v : Value} {Xn Y : World} (h : OneN m v Xn) (hb : Below Xn.heap.size Xn Y) : OneN m v Y := by
  obtain ⟨g, h1, h2, h3⟩ := h
  exact ⟨g, h1, Nat.lt_of_lt_of_le h2 hb.size, h3.below hb h2⟩
theorem app_nm2 {W : World} {ops : Array Oper} {rest : List Oper} {o : Oper} {a : Act} {Q : Exit → Act → World → Prop} (hgd : o.guard = none) (s x : Operand)
    (ho : o.op = .call { callee := .builtin .append, args := #[s, x], argTypes := #[22, 22] }) (base : Nat) (v : Value) (xs : List Nm) (y : Nm) (hs : a.eval s = v) (hown : OwnP base xs v W) (hb : base ≤ W.heap.size) (hn : (xs.length + 1) * 32 ≤ 140737488355328)
    (u : Value) (hu : OneN y u W) (hx : a.eval x = u)
    (h : ∀ v' w', OwnP base (xs ++ [y]) v' w' → Below base W w' → wpList Tryd.prog ops Q rest (a.put o.dst v') w') : wpList Tryd.prog ops Q (o :: rest) a W := by
  obtain ⟨g, rfl, _, hN0⟩ := hu
  unfold OwnP at hown
  obtain ⟨i0, hi, hz0, hz1, hz2⟩ := info_parts' nameInfo
  have hN : ∀ j u, (nmC y)[j]? = some u → W.cell? ((⟨g, 0, none⟩ : Addr).add j) = some u := fun j u hu => by
    rw [addr_plus]
    exact hN0.nth j u hu
  refine wpList_append_own_at _ hgd s x 22 ho base 25 i0 (.agg #[.string ⟨#[]⟩, .int .i64 0, .int .i64 0]) 3 32 Tryd.underlying22 hi hz0 hz1 hz2 rfl (by decide) v xs.length (flat xs) hs hown ⟨g, 0, none⟩ 1 1 (nmC y) hx rfl hN (fun u hu => flat_one [y] u (by simpa [flat] using hu)) (by unfold maxLen; omega) hn hb ?_
  intro v' w' h1 h2 _ h3
  refine h v' w' ?_ (Below.grown (Below.refl _ _) h2 hb (fun j hj => (hown.lt j hj).1))
  unfold OwnP
  rw [List.length_append, flat_append, show flat [y] = nmC y from by simp [flat]]
  exact h1
set_option maxRecDepth 100000 in
set_option maxHeartbeats 1000000 in
theorem refDecode_long (s : ByteArray) (w : World) (hs : 4096 < s.size) :
    Calls Tryd.prog 17 #[.string s] w fun e w' => e = .returned (.tuple #[.slice none 0 0, .bool false]) ∧ Below w.heap.size w w' := by
  have hs1 : (4096 : Int) < (s.size : Int) := by omega
  go_enter Tryd.func17, Tryd.ntmps17
  go_wp2
  go_ret2
  exact ⟨rfl, (Below.refl _ _).alloc (Nat.le_refl _) _⟩
set_option maxRecDepth 100000 in
set_option maxHeartbeats 4000000 in
theorem refDecode_any (s : ByteArray) (w : World) (hs : s.size ≤ 4096) :
    Calls Tryd.prog 17 #[.string s] w fun e w' => ∃ v B, e = .returned (.tuple #[v, .bool B]) ∧ (B = false ∧ decE s = 2 ∨ B = true ∧ decE s = 0 ∧ OwnP w.heap.size (decL s) v w') ∧ Below w.heap.size w w' := by
  have hs1 : ¬ (4096 : Int) < (s.size : Int) := by omega
  have hl : s.data.toList.length = s.size := by simp
  go_enter Tryd.func17, Tryd.ntmps17
  go_wp2_with fail
  have hO0 : OwnP w.heap.size [] (.slice (some ⟨w.heap.size, 0, none⟩) 0 0) (w.alloc (.cells #[] 25)) := World.ownsRow_lit (base := w.heap.size) (e := 25) (size := 3) w #[] 0 (Nat.le_refl _) (by decide) rfl
  have hB0 : Below w.heap.size w (w.alloc (.cells #[] 25)) := (Below.refl _ _).alloc (Nat.le_refl _) _
  have hX0 : s.extract 0 s.size = s := ba_ext (by rw [ext_end]; rfl)
  go_loopw [4, 5] (fun v iv wr => ∃ (L0 : List Nm) (a f : Nat), iv = .int .i64 a ∧ a ≤ s.size ∧ s.size - a ≤ f ∧ (allEn s = (L0.map fun m => (m, true)) ++ entF f (s.extract a s.size)) ∧ OwnP w.heap.size L0 v wr ∧ Below w.heap.size w wr) (fun _ iv _ => s.size - (intOf iv).toNat)
  case atStart => exact ⟨[], 0, s.size, rfl, Nat.zero_le _, Nat.le_refl _, by rw [hX0]; rfl, hO0, hB0⟩
  case round =>
    obtain ⟨L0, a, f, rfl, ha, hf, hEn, hown, hb⟩ := hrel
    have hz := hb.size
    have hlen : L0.length ≤ 4096 := by
      have h1 := entF_len s.size s
      have h2 : (allEn s).length = L0.length + (entF f (s.extract a s.size)).length := by rw [hEn, List.length_append, List.length_map]
      unfold allEn at h2
      omega
    clear hO0 hB0 hX0
    by_cases hlt : a < s.size
    · have hai : (a : Int) < (s.size : Int) := by omega
      obtain ⟨f, rfl⟩ : ∃ f', f = f' + 1 := ⟨f - 1, by omega⟩
      obtain ⟨R, hR⟩ : ∃ R, s.extract a s.size = R := ⟨_, rfl⟩
      have hRz : R.size = s.size - a := by rw [← hR, ByteArray.size_extract]; omega
      have hRl : R.data.toList = s.data.toList.drop a := by rw [← hR]; exact ext_end s a
      have hRg : ∀ j, (h : a + j < s.size) → (R.data.getD j 0).toNat = (s[a + j]).toNat := fun j h => by
        rw [← getD_byte R j (by omega)]
        congr 1
        simp only [← hR]
        rw [ByteArray.getElem_extract]
      obtain ⟨n, hn⟩ : ∃ n, s[a].toNat = n := ⟨_, rfl⟩
      have hcR : c0 R = n := by rw [← hn]; exact hRg 0 (by omega)
      have hn6 : n < 256 := by rw [← hn]; exact UInt8.toNat_lt _
      have hn' : ((s[a].toNat : Nat) : Int) = (n : Int) := by rw [hn]
      rw [hR] at hEn
      have hRne : ¬ R.size = 0 := by omega
      by_cases hw : a + 10 + n ≤ s.size
      · have hwi : ¬ (s.size : Int) < (a : Int) + 10 + (n : Int) := by omega
        have hwB : wholeB R = true := by unfold wholeB; rw [decide_eq_true_eq]; omega
        have hEn2 : allEn s = (L0.map fun m => (m, true)) ++ (fstT R, true) :: entF f (restS R) := by
          rw [hEn, entF, if_neg hRne, if_pos hwB]
        have hRest : restS R = s.extract (a + (10 + n)) s.size := by
          unfold restS
          refine ba_ext ?_
          rw [ext_end, ext_end, hRl, List.drop_drop, hcR]
          congr 1; omega
        rw [hRest] at hEn2
        obtain ⟨Xn, hX⟩ : ∃ Xn, numL ((s.data.toList.drop (a + 2 + n)).take 8) = Xn := ⟨_, rfl⟩
        have hX64 : Xn < 18446744073709551616 := by
          rw [← hX]
          have h1 := numLx_lt ((s.data.toList.drop (a + 2 + n)).take 8)
          have h2 : 256 ^ ((s.data.toList.drop (a + 2 + n)).take 8).length ≤ 256 ^ 8 := Nat.pow_le_pow_right (by decide) (by rw [List.length_take]; omega)
          have h3 : (256 : Nat) ^ 8 = 18446744073709551616 := by decide
          omega
        have hq2 : a + (1 + n) < s.size := by omega
        have hF : fstT R = ⟨s.extract (a + 1) (a + 1 + n), ((s[a + (1 + n)]'hq2).toNat : Int), wrap64 (Xn : Nat)⟩ := by
          unfold fstT
          rw [hcR, hRg (1 + n) (by omega)]
          have e1 : R.extract 1 (1 + n) = s.extract (a + 1) (a + 1 + n) := by
            rw [← hR, ByteArray.extract_extract]
            congr 1; omega
          have e2 : (R.extract (2 + n) R.size).data.toList.take 8 = (s.data.toList.drop (a + 2 + n)).take 8 := by
            rw [ext_end, hRl, List.drop_drop]
            congr 2; omega
          rw [e1, e2, hX]
        have hWd : Calls Tryd.prog 36 #[.slice (some ⟨wr.heap.size, 0, none⟩) s.size (grownCap wr s.size 0 5), .int .i64 ((a : Int) + 2 + (n : Int))] (Lib.bytesWorld wr 5 s) fun e w' => e = .returned (.tuple #[.int .u64 (Xn : Nat), .int .i64 0]) ∧ Below (Lib.bytesWorld wr 5 s).heap.size (Lib.bytesWorld wr 5 s) w' := by
          have h1 := Read8_any wr.heap.size (grownCap wr s.size 0 5) (a + 2 + n) s.data.toList (Lib.bytesWorld wr 5 s) (by omega) (by rw [hl]; exact grownCap_ge _ _ _ _) (grownCap_le_maxLen _ _ _ _ (by unfold maxLen; omega)) (by omega) (fun j hj => Lib.bytesWorld_cell wr 5 s j (by omega))
          have h2 := Word_of _ _ _ _ _ (by show ((s.data.toList.drop (a + 2 + n)).take 8).toArray.size ≤ 8; rw [List.size_toArray, List.length_take]; omega) h1
          rw [hl] at h2
          rw [show ((a : Int) + 2 + (n : Int)) = ((a + 2 + n : Nat) : Int) from by omega, ← hX]
          exact h2
        have HWd := Lib.hid hWd
        have hcv := Lib.run_convert_string_bytes (P := Tryd.prog) wr 9 51 5 s Tryd.underlying9 Tryd.underlying51 Tryd.underlying5
        have HBw := Lib.hid (bw_below wr 5 s)
        obtain ⟨WB, hWB⟩ : ∃ WB, Lib.bytesWorld wr 5 s = WB := ⟨_, rfl⟩
        obtain ⟨GC, hGC⟩ : ∃ GC, grownCap wr s.size 0 5 = GC := ⟨_, rfl⟩
        rw [hWB] at HWd hcv HBw
        rw [hGC] at HWd hcv
        have HEn := Lib.hid hEn2
        have HF := Lib.hid hF
        clear hWB hGC hWd hEn hEn2 hF hX hRg hRl hRest hcR hwB hR hRz hn hRne hs1
        by_cases hm : Xn ≤ 2305843009213693951
        · have hmi : ¬ (2305843009213693951 : Int) < (Xn : Int) := by omega
          have HMi := Lib.hid (Int.not_lt.1 hmi)
          go_wp2_with (go_at_call 36; refine HWd.out.mono ?_; rintro e w2 ⟨rfl, hb2⟩; refine Hid.out ?_)
          refine Lib.hid ?_
          have hbB : Below wr.heap.size wr w2 := HBw.out.trans (hb2.mono HBw.out.size)
          have HB2 := Lib.hid (hb.trans (hbB.mono hz))
          have HO2 : Hid (OwnP w.heap.size L0 u4 w2) := hown.mono hbB
          have hz2 : w.heap.size ≤ w2.heap.size := HB2.out.size
          obtain ⟨i1, hi1⟩ : ∃ i1, a + 1 = i1 := ⟨_, rfl⟩
          obtain ⟨i2, hi2⟩ : ∃ i2, i1 + n = i2 := ⟨_, rfl⟩
          have e1 : (a : Int) + 1 = (i1 : Int) := by omega
          have e2 : (i1 : Int) + (n : Int) = (i2 : Int) := by omega
          have l1 : (i1 : Int) ≤ (i2 : Int) := by omega
          have l2 : (i2 : Int) ≤ (s.size : Int) := by omega
          have l3 : (i2 : Int) < (s.size : Int) := by omega
          have l4 : i2 < s.size := by omega
          have hw64 : wrap64 (Xn : Nat) = (Xn : Int) := by unfold wrap64; omega
          obtain ⟨m, hm1, hm2, hm3, hm4⟩ : ∃ m : Nm, s.extract i1 i2 = m.nm ∧ ((s[i2].toNat : Nat) : Int) = m.kd ∧ (Xn : Int) = m.id ∧ fstT R = m := ⟨_, by rw [HF.out, hi1, hi2], by rw [HF.out]; simp only [show a + (1 + n) = i2 from by omega], by rw [HF.out, hw64], rfl⟩
          have hkd : 0 ≤ m.kd ∧ m.kd < 256 := by rw [← hm2]; have := UInt8.toNat_lt s[i2]; omega
          have hid : 0 ≤ m.id ∧ m.id ≤ 2305843009213693951 := ⟨by rw [← hm3]; exact Int.natCast_nonneg Xn, by rw [← hm3]; exact HMi.out⟩
          have hwr : ∀ x : Int, 0 ≤ x → x ≤ 2305843009213693951 → IntKind.i64.wrap x = x := fun x h1 h2 => by rw [IntKind.wrap_i64]; omega
          have q1 := hwr (i1 : Int) (by omega) (by omega)
          have q2 := hwr (i2 : Int) (by omega) (by omega)
          have q3 := hwr m.kd hkd.1 (by omega)
          have q4 := hwr m.id hid.1 hid.2
          clear hwr
          have HWR := Lib.hid (And.intro q1 (And.intro q2 (And.intro q3 q4)))
          clear q1 q2 q3 q4
          have HFS := Lib.hid (And.intro e1 (And.intro e2 (And.intro l1 (And.intro l2 (And.intro l3 (And.intro hm1 (And.intro hm2 (And.intro hkd (And.intro hid (And.intro hm3 (And.intro hai (And.intro hn6 hs))))))))))))
          rw [hm4] at HEn
          clear hm1 hm2 hm4 HF hb2 hbB hw64
          go_wp2_with fail
          refine wp_region_monoT 12 20 (fun kq uq Xq => match kq with | 40 => uq = u4 | 41 => uq = .string s | 42 => uq = .int .i64 (a : Int) | 43 => uq = .int .i64 (i1 : Int) | 44 => uq = .int .i64 (a : Int) | 45 => uq = .int .i64 (i1 : Int) | 46 => uq = .int .i64 (n : Int) | 47 => uq = .int .i64 (i2 : Int) | 48 => uq = .string m.nm | 49 => uq = .string s | 50 => uq = .int .i64 (a : Int) | 51 => uq = .int .i64 (i1 : Int) | 52 => uq = .int .i64 (n : Int) | 53 => uq = .int .i64 (i2 : Int) | 54 => uq = .int .u8 m.kd | 55 => uq = .int .i64 m.kd | 56 => uq = .int .u64 (Xn : Int) | 57 => uq = .int .i64 m.id | 58 => uq = .agg #[.string m.nm, .int .i64 m.kd, .int .i64 m.id] | 59 => OneN m (uq) Xq | _ => True) (by kernel_rfl) (by kernel_rfl) (by kernel_rfl) (by kernel_rfl) (by simp) (by kernel_rfl) ?_ ?_ ?_
          · intro kq v W W' h hb
            revert h
            try dsimp only
            split
            · intro h; exact h
            · intro h; exact h
            · intro h; exact h
            · intro h; exact h
            · intro h; exact h
            · intro h; exact h
            · intro h; exact h
            · intro h; exact h
            · intro h; exact h
            · intro h; exact h
            · intro h; exact h
            · intro h; exact h
            · intro h; exact h
            · intro h; exact h
            · intro h; exact h
            · intro h; exact h
            · intro h; exact h
            · intro h; exact h
            · intro h; exact h
            · intro h; exact OneN.mono h hb
            · intro h; trivial
          · intro a' X hB hs hk i o d ho hd hG
            match i, ho with
            | 0, ho =>
              obtain rfl : _ = o := Option.some.inj ho
              obtain rfl : 40 = d := Option.some.inj hd
              have g4 : a'.eval (.tmp 4) = u4 := hk 4 (by kernel_rfl)
              obtain ⟨ev, hev⟩ : ∃ ev, a'.eval = ev := ⟨_, rfl⟩
              rw [hev] at g4 ⊢
              clear hev hG hk
              obtain ⟨e1, e2, l1, l2, l3, hm1, hm2, hkd, hid, hm3, hai, hn6, hs4⟩ := HFS.out
              obtain ⟨q1, q2, q3, q4⟩ := HWR.out
              exact .inr ⟨rfl, .inl ⟨u4, X, by clear hs; go_simp, Below.refl _ _, rfl⟩⟩
            | 1, ho =>
              obtain rfl : _ = o := Option.some.inj ho
              obtain rfl : 41 = d := Option.some.inj hd
              have g0 : a'.eval (.tmp 0) = .string s := hk 0 (by kernel_rfl)
              obtain ⟨ev, hev⟩ : ∃ ev, a'.eval = ev := ⟨_, rfl⟩
              rw [hev] at g0 ⊢
              clear hev hG hk
              obtain ⟨e1, e2, l1, l2, l3, hm1, hm2, hkd, hid, hm3, hai, hn6, hs4⟩ := HFS.out
              obtain ⟨q1, q2, q3, q4⟩ := HWR.out
              exact .inr ⟨rfl, .inl ⟨.string s, X, by clear hs; go_simp, Below.refl _ _, rfl⟩⟩
            | 2, ho =>
              obtain rfl : _ = o := Option.some.inj ho
              obtain rfl : 42 = d := Option.some.inj hd
              have g5 : a'.eval (.tmp 5) = .int .i64 a := hk 5 (by kernel_rfl)
              obtain ⟨ev, hev⟩ : ∃ ev, a'.eval = ev := ⟨_, rfl⟩
              rw [hev] at g5 ⊢
              clear hev hG hk
              obtain ⟨e1, e2, l1, l2, l3, hm1, hm2, hkd, hid, hm3, hai, hn6, hs4⟩ := HFS.out
              obtain ⟨q1, q2, q3, q4⟩ := HWR.out
              exact .inr ⟨rfl, .inl ⟨.int .i64 (a : Int), X, by clear hs; go_simp, Below.refl _ _, rfl⟩⟩
            | 3, ho =>
              obtain rfl : _ = o := Option.some.inj ho
              obtain rfl : 43 = d := Option.some.inj hd
              have g42 : a'.eval (.tmp 42) = .int .i64 (a : Int) := hG ⟨2, .data⟩ (by simp) rfl 42 rfl
              have k0 : a'.eval (.const (.int .i64 1)) = (.int .i64 1) := rfl
              obtain ⟨ev, hev⟩ : ∃ ev, a'.eval = ev := ⟨_, rfl⟩
              rw [hev] at g42 k0 ⊢
              clear hev hG hk
              obtain ⟨e1, e2, l1, l2, l3, hm1, hm2, hkd, hid, hm3, hai, hn6, hs4⟩ := HFS.out
              obtain ⟨q1, q2, q3, q4⟩ := HWR.out
              exact .inr ⟨rfl, .inl ⟨.int .i64 (i1 : Int), X, by clear hs; go_simp, Below.refl _ _, rfl⟩⟩
            | 4, ho =>
              obtain rfl : _ = o := Option.some.inj ho
              obtain rfl : 44 = d := Option.some.inj hd
              have g5 : a'.eval (.tmp 5) = .int .i64 a := hk 5 (by kernel_rfl)
              obtain ⟨ev, hev⟩ : ∃ ev, a'.eval = ev := ⟨_, rfl⟩
              rw [hev] at g5 ⊢
              clear hev hG hk
              obtain ⟨e1, e2, l1, l2, l3, hm1, hm2, hkd, hid, hm3, hai, hn6, hs4⟩ := HFS.out
              obtain ⟨q1, q2, q3, q4⟩ := HWR.out
              exact .inr ⟨rfl, .inl ⟨.int .i64 (a : Int), X, by clear hs; go_simp, Below.refl _ _, rfl⟩⟩
            | 5, ho =>
              obtain rfl : _ = o := Option.some.inj ho
              obtain rfl : 45 = d := Option.some.inj hd
              have g44 : a'.eval (.tmp 44) = .int .i64 (a : Int) := hG ⟨4, .data⟩ (by simp) rfl 44 rfl
              have k0 : a'.eval (.const (.int .i64 1)) = (.int .i64 1) := rfl
              obtain ⟨ev, hev⟩ : ∃ ev, a'.eval = ev := ⟨_, rfl⟩
              rw [hev] at g44 k0 ⊢
              clear hev hG hk
              obtain ⟨e1, e2, l1, l2, l3, hm1, hm2, hkd, hid, hm3, hai, hn6, hs4⟩ := HFS.out
              obtain ⟨q1, q2, q3, q4⟩ := HWR.out
              exact .inr ⟨rfl, .inl ⟨.int .i64 (i1 : Int), X, by clear hs; go_simp, Below.refl _ _, rfl⟩⟩
            | 6, ho =>
              obtain rfl : _ = o := Option.some.inj ho
              obtain rfl : 46 = d := Option.some.inj hd
              have g6 : a'.eval (.tmp 6) = .int .i64 n := hk 6 (by kernel_rfl)
              obtain ⟨ev, hev⟩ : ∃ ev, a'.eval = ev := ⟨_, rfl⟩
              rw [hev] at g6 ⊢
              clear hev hG hk
              obtain ⟨e1, e2, l1, l2, l3, hm1, hm2, hkd, hid, hm3, hai, hn6, hs4⟩ := HFS.out
              obtain ⟨q1, q2, q3, q4⟩ := HWR.out
              exact .inr ⟨rfl, .inl ⟨.int .i64 (n : Int), X, by clear hs; go_simp, Below.refl _ _, rfl⟩⟩
            | 7, ho =>
              obtain rfl : _ = o := Option.some.inj ho
              obtain rfl : 47 = d := Option.some.inj hd
              have g45 : a'.eval (.tmp 45) = .int .i64 (i1 : Int) := hG ⟨5, .data⟩ (by simp) rfl 45 rfl
              have g46 : a'.eval (.tmp 46) = .int .i64 (n : Int) := hG ⟨6, .data⟩ (by simp) rfl 46 rfl
              obtain ⟨ev, hev⟩ : ∃ ev, a'.eval = ev := ⟨_, rfl⟩
              rw [hev] at g45 g46 ⊢
              clear hev hG hk
              obtain ⟨e1, e2, l1, l2, l3, hm1, hm2, hkd, hid, hm3, hai, hn6, hs4⟩ := HFS.out
              obtain ⟨q1, q2, q3, q4⟩ := HWR.out
              exact .inr ⟨rfl, .inl ⟨.int .i64 (i2 : Int), X, by clear hs; go_simp, Below.refl _ _, rfl⟩⟩
            | 8, ho =>
              obtain rfl : _ = o := Option.some.inj ho
              obtain rfl : 48 = d := Option.some.inj hd
              have g41 : a'.eval (.tmp 41) = .string s := hG ⟨1, .data⟩ (by simp) rfl 41 rfl
              have g43 : a'.eval (.tmp 43) = .int .i64 (i1 : Int) := hG ⟨3, .data⟩ (by simp) rfl 43 rfl
              have g47 : a'.eval (.tmp 47) = .int .i64 (i2 : Int) := hG ⟨7, .data⟩ (by simp) rfl 47 rfl
              obtain ⟨ev, hev⟩ : ∃ ev, a'.eval = ev := ⟨_, rfl⟩
              rw [hev] at g41 g43 g47 ⊢
              clear hev hG hk
              obtain ⟨e1, e2, l1, l2, l3, hm1, hm2, hkd, hid, hm3, hai, hn6, hs4⟩ := HFS.out
              obtain ⟨q1, q2, q3, q4⟩ := HWR.out
              exact .inr ⟨rfl, .inl ⟨.string m.nm, X, by clear hs; go_simp, Below.refl _ _, rfl⟩⟩
            | 9, ho =>
              obtain rfl : _ = o := Option.some.inj ho
              obtain rfl : 49 = d := Option.some.inj hd
              have g0 : a'.eval (.tmp 0) = .string s := hk 0 (by kernel_rfl)
              obtain ⟨ev, hev⟩ : ∃ ev, a'.eval = ev := ⟨_, rfl⟩
              rw [hev] at g0 ⊢
              clear hev hG hk
              obtain ⟨e1, e2, l1, l2, l3, hm1, hm2, hkd, hid, hm3, hai, hn6, hs4⟩ := HFS.out
              obtain ⟨q1, q2, q3, q4⟩ := HWR.out
              exact .inr ⟨rfl, .inl ⟨.string s, X, by clear hs; go_simp, Below.refl _ _, rfl⟩⟩
            | 10, ho =>
              obtain rfl : _ = o := Option.some.inj ho
              obtain rfl : 50 = d := Option.some.inj hd
              have g5 : a'.eval (.tmp 5) = .int .i64 a := hk 5 (by kernel_rfl)
              obtain ⟨ev, hev⟩ : ∃ ev, a'.eval = ev := ⟨_, rfl⟩
              rw [hev] at g5 ⊢
              clear hev hG hk
              obtain ⟨e1, e2, l1, l2, l3, hm1, hm2, hkd, hid, hm3, hai, hn6, hs4⟩ := HFS.out
              obtain ⟨q1, q2, q3, q4⟩ := HWR.out
              exact .inr ⟨rfl, .inl ⟨.int .i64 (a : Int), X, by clear hs; go_simp, Below.refl _ _, rfl⟩⟩
            | 11, ho =>
              obtain rfl : _ = o := Option.some.inj ho
              obtain rfl : 51 = d := Option.some.inj hd
              have g50 : a'.eval (.tmp 50) = .int .i64 (a : Int) := hG ⟨10, .data⟩ (by simp) rfl 50 rfl
              have k0 : a'.eval (.const (.int .i64 1)) = (.int .i64 1) := rfl
              obtain ⟨ev, hev⟩ : ∃ ev, a'.eval = ev := ⟨_, rfl⟩
              rw [hev] at g50 k0 ⊢
              clear hev hG hk
              obtain ⟨e1, e2, l1, l2, l3, hm1, hm2, hkd, hid, hm3, hai, hn6, hs4⟩ := HFS.out
              obtain ⟨q1, q2, q3, q4⟩ := HWR.out
              exact .inr ⟨rfl, .inl ⟨.int .i64 (i1 : Int), X, by clear hs; go_simp, Below.refl _ _, rfl⟩⟩
            | 12, ho =>
              obtain rfl : _ = o := Option.some.inj ho
              obtain rfl : 52 = d := Option.some.inj hd
              have g6 : a'.eval (.tmp 6) = .int .i64 n := hk 6 (by kernel_rfl)
              obtain ⟨ev, hev⟩ : ∃ ev, a'.eval = ev := ⟨_, rfl⟩
              rw [hev] at g6 ⊢
              clear hev hG hk
              obtain ⟨e1, e2, l1, l2, l3, hm1, hm2, hkd, hid, hm3, hai, hn6, hs4⟩ := HFS.out
              obtain ⟨q1, q2, q3, q4⟩ := HWR.out
              exact .inr ⟨rfl, .inl ⟨.int .i64 (n : Int), X, by clear hs; go_simp, Below.refl _ _, rfl⟩⟩
            | 13, ho =>
              obtain rfl : _ = o := Option.some.inj ho
              obtain rfl : 53 = d := Option.some.inj hd
              have g51 : a'.eval (.tmp 51) = .int .i64 (i1 : Int) := hG ⟨11, .data⟩ (by simp) rfl 51 rfl
              have g52 : a'.eval (.tmp 52) = .int .i64 (n : Int) := hG ⟨12, .data⟩ (by simp) rfl 52 rfl
              obtain ⟨ev, hev⟩ : ∃ ev, a'.eval = ev := ⟨_, rfl⟩
              rw [hev] at g51 g52 ⊢
              clear hev hG hk
              obtain ⟨e1, e2, l1, l2, l3, hm1, hm2, hkd, hid, hm3, hai, hn6, hs4⟩ := HFS.out
              obtain ⟨q1, q2, q3, q4⟩ := HWR.out
              exact .inr ⟨rfl, .inl ⟨.int .i64 (i2 : Int), X, by clear hs; go_simp, Below.refl _ _, rfl⟩⟩
            | 14, ho =>
              obtain rfl : _ = o := Option.some.inj ho
              obtain rfl : 54 = d := Option.some.inj hd
              have g49 : a'.eval (.tmp 49) = .string s := hG ⟨9, .data⟩ (by simp) rfl 49 rfl
              have g53 : a'.eval (.tmp 53) = .int .i64 (i2 : Int) := hG ⟨13, .data⟩ (by simp) rfl 53 rfl
              obtain ⟨ev, hev⟩ : ∃ ev, a'.eval = ev := ⟨_, rfl⟩
              rw [hev] at g49 g53 ⊢
              clear hev hG hk
              obtain ⟨e1, e2, l1, l2, l3, hm1, hm2, hkd, hid, hm3, hai, hn6, hs4⟩ := HFS.out
              obtain ⟨q1, q2, q3, q4⟩ := HWR.out
              exact .inr ⟨rfl, .inl ⟨.int .u8 m.kd, X, by clear hs; go_simp, Below.refl _ _, rfl⟩⟩
            | 15, ho =>
              obtain rfl : _ = o := Option.some.inj ho
              obtain rfl : 55 = d := Option.some.inj hd
              have g54 : a'.eval (.tmp 54) = .int .u8 m.kd := hG ⟨14, .data⟩ (by simp) rfl 54 rfl
              obtain ⟨ev, hev⟩ : ∃ ev, a'.eval = ev := ⟨_, rfl⟩
              rw [hev] at g54 ⊢
              clear hev hG hk
              obtain ⟨e1, e2, l1, l2, l3, hm1, hm2, hkd, hid, hm3, hai, hn6, hs4⟩ := HFS.out
              obtain ⟨q1, q2, q3, q4⟩ := HWR.out
              exact .inr ⟨rfl, .inl ⟨.int .i64 m.kd, X, by clear hs; go_simp, Below.refl _ _, rfl⟩⟩
            | 16, ho =>
              obtain rfl : _ = o := Option.some.inj ho
              obtain rfl : 56 = d := Option.some.inj hd
              have g7 : a'.eval (.tmp 7) = .int .u64 m.id := hk 7 (by kernel_rfl)
              obtain ⟨ev, hev⟩ : ∃ ev, a'.eval = ev := ⟨_, rfl⟩
              rw [hev] at g7 ⊢
              clear hev hG hk
              obtain ⟨e1, e2, l1, l2, l3, hm1, hm2, hkd, hid, hm3, hai, hn6, hs4⟩ := HFS.out
              obtain ⟨q1, q2, q3, q4⟩ := HWR.out
              exact .inr ⟨rfl, .inl ⟨.int .u64 (Xn : Int), X, by clear hs; go_simp, Below.refl _ _, rfl⟩⟩
            | 17, ho =>
              obtain rfl : _ = o := Option.some.inj ho
              obtain rfl : 57 = d := Option.some.inj hd
              have g56 : a'.eval (.tmp 56) = .int .u64 (Xn : Int) := hG ⟨16, .data⟩ (by simp) rfl 56 rfl
              obtain ⟨ev, hev⟩ : ∃ ev, a'.eval = ev := ⟨_, rfl⟩
              rw [hev] at g56 ⊢
              clear hev hG hk
              obtain ⟨e1, e2, l1, l2, l3, hm1, hm2, hkd, hid, hm3, hai, hn6, hs4⟩ := HFS.out
              obtain ⟨q1, q2, q3, q4⟩ := HWR.out
              exact .inr ⟨rfl, .inl ⟨.int .i64 m.id, X, by clear hs; go_simp, Below.refl _ _, rfl⟩⟩
            | 18, ho =>
              obtain rfl : _ = o := Option.some.inj ho
              obtain rfl : 58 = d := Option.some.inj hd
              have g48 : a'.eval (.tmp 48) = .string m.nm := hG ⟨8, .data⟩ (by simp) rfl 48 rfl
              have g55 : a'.eval (.tmp 55) = .int .i64 m.kd := hG ⟨15, .data⟩ (by simp) rfl 55 rfl
              have g57 : a'.eval (.tmp 57) = .int .i64 m.id := hG ⟨17, .data⟩ (by simp) rfl 57 rfl
              obtain ⟨ev, hev⟩ : ∃ ev, a'.eval = ev := ⟨_, rfl⟩
              rw [hev] at g48 g55 g57 ⊢
              clear hev hG hk
              obtain ⟨e1, e2, l1, l2, l3, hm1, hm2, hkd, hid, hm3, hai, hn6, hs4⟩ := HFS.out
              obtain ⟨q1, q2, q3, q4⟩ := HWR.out
              exact .inr ⟨rfl, .inl ⟨.agg #[.string m.nm, .int .i64 m.kd, .int .i64 m.id], X, by clear hs; go_simp, Below.refl _ _, rfl⟩⟩
            | 19, ho =>
              obtain rfl : _ = o := Option.some.inj ho
              obtain rfl : 59 = d := Option.some.inj hd
              have g58 : a'.eval (.tmp 58) = .agg #[.string m.nm, .int .i64 m.kd, .int .i64 m.id] := hG ⟨18, .data⟩ (by simp) rfl 58 rfl
              obtain ⟨ev, hev⟩ : ∃ ev, a'.eval = ev := ⟨_, rfl⟩
              rw [hev] at g58 ⊢
              clear hev hG hk
              refine .inr ⟨rfl, .inl ⟨.slice (some ⟨X.heap.size, 0, none⟩) 1 1, X.alloc (nmB m), by clear hs; unfold nmB; go_simp, (Below.refl _ _).alloc (Nat.le_refl _) _, ?_⟩⟩
              exact ⟨X.heap.size, rfl, by simp, NmAt.new X m⟩
            | j + 20, ho => simp at ho
          · intro a' X hB hs hdf hk hG
            obtain ⟨tm, df⟩ := a'
            obtain rfl : df = [] := hdf
            have e0 : tm.getD 0 undef = .string s := hk 0 (by kernel_rfl)
            have e1 : tm.getD 1 undef = undef := hk 1 (by kernel_rfl)
            have e2 : tm.getD 2 undef = u2 := hk 2 (by kernel_rfl)
            have e3 : tm.getD 3 undef = u3 := hk 3 (by kernel_rfl)
            have e4 : tm.getD 4 undef = u4 := hk 4 (by kernel_rfl)
            have e5 : tm.getD 5 undef = .int .i64 a := hk 5 (by kernel_rfl)
            have e6 : tm.getD 6 undef = .int .i64 n := hk 6 (by kernel_rfl)
            have e7 : tm.getD 7 undef = .int .u64 m.id := hk 7 (by kernel_rfl)
            have e8 : tm.getD 8 undef = .int .i64 0 := hk 8 (by kernel_rfl)
            have e9 : tm.getD 9 undef = .slice (some ⟨w.heap.size, 0, none⟩) 0 0 := hk 9 (by kernel_rfl)
            have e10 : tm.getD 10 undef = .string s := hk 10 (by kernel_rfl)
            have e11 : tm.getD 11 undef = .int .i64 s.size := hk 11 (by kernel_rfl)
            have e12 : tm.getD 12 undef = .bool false := hk 12 (by kernel_rfl)
            have e13 : tm.getD 13 undef = .int .i64 a := hk 13 (by kernel_rfl)
            have e14 : tm.getD 14 undef = .string s := hk 14 (by kernel_rfl)
            have e15 : tm.getD 15 undef = .int .i64 s.size := hk 15 (by kernel_rfl)
            have e16 : tm.getD 16 undef = .bool true := hk 16 (by kernel_rfl)
            have e17 : tm.getD 17 undef = .string s := hk 17 (by kernel_rfl)
            have e18 : tm.getD 18 undef = .int .i64 a := hk 18 (by kernel_rfl)
            have e19 : tm.getD 19 undef = .int .u8 n := hk 19 (by kernel_rfl)
            have e20 : tm.getD 20 undef = .int .i64 n := hk 20 (by kernel_rfl)
            have e21 : tm.getD 21 undef = .int .i64 a := hk 21 (by kernel_rfl)
            have e22 : tm.getD 22 undef = .int .i64 (a + 10) := hk 22 (by kernel_rfl)
            have e23 : tm.getD 23 undef = .int .i64 n := hk 23 (by kernel_rfl)
            have e24 : tm.getD 24 undef = .int .i64 (a + 10 + n) := hk 24 (by kernel_rfl)
            have e25 : tm.getD 25 undef = .string s := hk 25 (by kernel_rfl)
            have e26 : tm.getD 26 undef = .int .i64 s.size := hk 26 (by kernel_rfl)
            have e27 : tm.getD 27 undef = .bool false := hk 27 (by kernel_rfl)
            have e28 : tm.getD 28 undef = .tuple #[.int .u64 Xn, .int .i64 0] := hk 28 (by kernel_rfl)
            have e29 : tm.getD 29 undef = .string s := hk 29 (by kernel_rfl)
            have e30 : tm.getD 30 undef = .slice (some ⟨wr.heap.size, 0, none⟩) s.size GC := hk 30 (by kernel_rfl)
            have e31 : tm.getD 31 undef = .int .i64 a := hk 31 (by kernel_rfl)
            have e32 : tm.getD 32 undef = .int .i64 (a + 2) := hk 32 (by kernel_rfl)
            have e33 : tm.getD 33 undef = .int .i64 n := hk 33 (by kernel_rfl)
            have e34 : tm.getD 34 undef = .int .i64 (a + 2 + n) := hk 34 (by kernel_rfl)
            have e35 : tm.getD 35 undef = .tuple #[.int .u64 Xn, .int .i64 0] := hk 35 (by kernel_rfl)
            have e36 : tm.getD 36 undef = .int .u64 m.id := hk 36 (by kernel_rfl)
            have e37 : tm.getD 37 undef = .int .i64 0 := hk 37 (by kernel_rfl)
            have e38 : tm.getD 38 undef = .int .u64 m.id := hk 38 (by kernel_rfl)
            have e39 : tm.getD 39 undef = .bool (decide (2305843009213693951 < m.id)) := hk 39 (by kernel_rfl)
            have e60 : tm.getD 60 undef = u60 := hk 60 (by kernel_rfl)
            have e61 : tm.getD 61 undef = u61 := hk 61 (by kernel_rfl)
            have e62 : tm.getD 62 undef = u62 := hk 62 (by kernel_rfl)
            have e63 : tm.getD 63 undef = u63 := hk 63 (by kernel_rfl)
            have e64 : tm.getD 64 undef = u64 := hk 64 (by kernel_rfl)
            have e65 : tm.getD 65 undef = undef := hk 65 (by kernel_rfl)
            have e66 : tm.getD 66 undef = undef := hk 66 (by kernel_rfl)
            have e67 : tm.getD 67 undef = undef := hk 67 (by kernel_rfl)
            have g40 : (tm.getD 40 undef) = u4 := hG 0 40 (by decide) rfl
            have g41 : (tm.getD 41 undef) = .string s := hG 1 41 (by decide) rfl
            have g42 : (tm.getD 42 undef) = .int .i64 (a : Int) := hG 2 42 (by decide) rfl
            have g43 : (tm.getD 43 undef) = .int .i64 (i1 : Int) := hG 3 43 (by decide) rfl
            have g44 : (tm.getD 44 undef) = .int .i64 (a : Int) := hG 4 44 (by decide) rfl
            have g45 : (tm.getD 45 undef) = .int .i64 (i1 : Int) := hG 5 45 (by decide) rfl
            have g46 : (tm.getD 46 undef) = .int .i64 (n : Int) := hG 6 46 (by decide) rfl
            have g47 : (tm.getD 47 undef) = .int .i64 (i2 : Int) := hG 7 47 (by decide) rfl
            have g48 : (tm.getD 48 undef) = .string m.nm := hG 8 48 (by decide) rfl
            have g49 : (tm.getD 49 undef) = .string s := hG 9 49 (by decide) rfl
            have g50 : (tm.getD 50 undef) = .int .i64 (a : Int) := hG 10 50 (by decide) rfl
            have g51 : (tm.getD 51 undef) = .int .i64 (i1 : Int) := hG 11 51 (by decide) rfl
            have g52 : (tm.getD 52 undef) = .int .i64 (n : Int) := hG 12 52 (by decide) rfl
            have g53 : (tm.getD 53 undef) = .int .i64 (i2 : Int) := hG 13 53 (by decide) rfl
            have g54 : (tm.getD 54 undef) = .int .u8 m.kd := hG 14 54 (by decide) rfl
            have g55 : (tm.getD 55 undef) = .int .i64 m.kd := hG 15 55 (by decide) rfl
            have g56 : (tm.getD 56 undef) = .int .u64 (Xn : Int) := hG 16 56 (by decide) rfl
            have g57 : (tm.getD 57 undef) = .int .i64 m.id := hG 17 57 (by decide) rfl
            have g58 : (tm.getD 58 undef) = .agg #[.string m.nm, .int .i64 m.kd, .int .i64 m.id] := hG 18 58 (by decide) rfl
            have g59 : OneN m ((tm.getD 59 undef)) X := hG 19 59 (by decide) rfl
            have htm := arr_of tm ((.string s : Value) :: (undef : Value) :: (u2 : Value) :: (u3 : Value) :: (u4 : Value) :: (.int .i64 a : Value) :: (.int .i64 n : Value) :: (.int .u64 m.id : Value) :: (.int .i64 0 : Value) :: (.slice (some ⟨w.heap.size, 0, none⟩) 0 0 : Value) :: (.string s : Value) :: (.int .i64 s.size : Value) :: (.bool false : Value) :: (.int .i64 a : Value) :: (.string s : Value) :: (.int .i64 s.size : Value) :: (.bool true : Value) :: (.string s : Value) :: (.int .i64 a : Value) :: (.int .u8 n : Value) :: (.int .i64 n : Value) :: (.int .i64 a : Value) :: (.int .i64 (a + 10) : Value) :: (.int .i64 n : Value) :: (.int .i64 (a + 10 + n) : Value) :: (.string s : Value) :: (.int .i64 s.size : Value) :: (.bool false : Value) :: (.tuple #[.int .u64 Xn, .int .i64 0] : Value) :: (.string s : Value) :: (.slice (some ⟨wr.heap.size, 0, none⟩) s.size GC : Value) :: (.int .i64 a : Value) :: (.int .i64 (a + 2) : Value) :: (.int .i64 n : Value) :: (.int .i64 (a + 2 + n) : Value) :: (.tuple #[.int .u64 Xn, .int .i64 0] : Value) :: (.int .u64 m.id : Value) :: (.int .i64 0 : Value) :: (.int .u64 m.id : Value) :: (.bool (decide (2305843009213693951 < m.id)) : Value) :: (tm.getD 40 undef : Value) :: (tm.getD 41 undef : Value) :: (tm.getD 42 undef : Value) :: (tm.getD 43 undef : Value) :: (tm.getD 44 undef : Value) :: (tm.getD 45 undef : Value) :: (tm.getD 46 undef : Value) :: (tm.getD 47 undef : Value) :: (tm.getD 48 undef : Value) :: (tm.getD 49 undef : Value) :: (tm.getD 50 undef : Value) :: (tm.getD 51 undef : Value) :: (tm.getD 52 undef : Value) :: (tm.getD 53 undef : Value) :: (tm.getD 54 undef : Value) :: (tm.getD 55 undef : Value) :: (tm.getD 56 undef : Value) :: (tm.getD 57 undef : Value) :: (tm.getD 58 undef : Value) :: (tm.getD 59 undef : Value) :: (u60 : Value) :: (u61 : Value) :: (u62 : Value) :: (u63 : Value) :: (u64 : Value) :: (undef : Value) :: (undef : Value) :: (undef : Value) :: []) hs (by show (tm.getD 0 undef :: tm.getD 1 undef :: tm.getD 2 undef :: tm.getD 3 undef :: tm.getD 4 undef :: tm.getD 5 undef :: tm.getD 6 undef :: tm.getD 7 undef :: tm.getD 8 undef :: tm.getD 9 undef :: tm.getD 10 undef :: tm.getD 11 undef :: tm.getD 12 undef :: tm.getD 13 undef :: tm.getD 14 undef :: tm.getD 15 undef :: tm.getD 16 undef :: tm.getD 17 undef :: tm.getD 18 undef :: tm.getD 19 undef :: tm.getD 20 undef :: tm.getD 21 undef :: tm.getD 22 undef :: tm.getD 23 undef :: tm.getD 24 undef :: tm.getD 25 undef :: tm.getD 26 undef :: tm.getD 27 undef :: tm.getD 28 undef :: tm.getD 29 undef :: tm.getD 30 undef :: tm.getD 31 undef :: tm.getD 32 undef :: tm.getD 33 undef :: tm.getD 34 undef :: tm.getD 35 undef :: tm.getD 36 undef :: tm.getD 37 undef :: tm.getD 38 undef :: tm.getD 39 undef :: tm.getD 40 undef :: tm.getD 41 undef :: tm.getD 42 undef :: tm.getD 43 undef :: tm.getD 44 undef :: tm.getD 45 undef :: tm.getD 46 undef :: tm.getD 47 undef :: tm.getD 48 undef :: tm.getD 49 undef :: tm.getD 50 undef :: tm.getD 51 undef :: tm.getD 52 undef :: tm.getD 53 undef :: tm.getD 54 undef :: tm.getD 55 undef :: tm.getD 56 undef :: tm.getD 57 undef :: tm.getD 58 undef :: tm.getD 59 undef :: tm.getD 60 undef :: tm.getD 61 undef :: tm.getD 62 undef :: tm.getD 63 undef :: tm.getD 64 undef :: tm.getD 65 undef :: tm.getD 66 undef :: tm.getD 67 undef :: []) = _; rw [e0, e1, e2, e3, e4, e5, e6, e7, e8, e9, e10, e11, e12, e13, e14, e15, e16, e17, e18, e19, e20, e21, e22, e23, e24, e25, e26, e27, e28, e29, e30, e31, e32, e33, e34, e35, e36, e37, e38, e39, e60, e61, e62, e63, e64, e65, e66, e67]; try rfl)
            clear hs hk hG e0 e1 e2 e3 e4 e5 e6 e7 e8 e9 e10 e11 e12 e13 e14 e15 e16 e17 e18 e19 e20 e21 e22 e23 e24 e25 e26 e27 e28 e29 e30 e31 e32 e33 e34 e35 e36 e37 e38 e39 e60 e61 e62 e63 e64 e65 e66 e67
            generalize tm.getD 40 undef = t40 at htm g40
            generalize tm.getD 41 undef = t41 at htm g41
            generalize tm.getD 42 undef = t42 at htm g42
            generalize tm.getD 43 undef = t43 at htm g43
            generalize tm.getD 44 undef = t44 at htm g44
            generalize tm.getD 45 undef = t45 at htm g45
            generalize tm.getD 46 undef = t46 at htm g46
            generalize tm.getD 47 undef = t47 at htm g47
            generalize tm.getD 48 undef = t48 at htm g48
            generalize tm.getD 49 undef = t49 at htm g49
            generalize tm.getD 50 undef = t50 at htm g50
            generalize tm.getD 51 undef = t51 at htm g51
            generalize tm.getD 52 undef = t52 at htm g52
            generalize tm.getD 53 undef = t53 at htm g53
            generalize tm.getD 54 undef = t54 at htm g54
            generalize tm.getD 55 undef = t55 at htm g55
            generalize tm.getD 56 undef = t56 at htm g56
            generalize tm.getD 57 undef = t57 at htm g57
            generalize tm.getD 58 undef = t58 at htm g58
            generalize tm.getD 59 undef = t59 at htm g59
            subst htm
            subst g40
            subst g41
            subst g42
            subst g43
            subst g44
            subst g45
            subst g46
            subst g47
            subst g48
            subst g49
            subst g50
            subst g51
            subst g52
            subst g53
            subst g54
            subst g55
            subst g56
            subst g57
            subst g58
            simp only [List.drop_succ_cons, List.drop_zero]
            have hbX : Below w2.heap.size w2 X := hB
            have HBX := Lib.hid (HB2.out.trans (hbX.mono hz2))
            have hOX := HO2.out.mono hbX
            have hzX : w.heap.size ≤ X.heap.size := HBX.out.size
            clear hB hbX HO2 HB2
            have hlen32 : (L0.length + 1) * 32 ≤ 140737488355328 := by omega
            go_wp2_with (at_builtin; refine app_nm2 rfl _ _ rfl w.heap.size _ L0 m rfl hOX hzX hlen32 _ g59 rfl ?_; intro v3 w3 ho3 hb3; refine Hid.out ?_)
            refine Lib.hid ?_
            have HO3 := Lib.hid ho3
            have HB3 := Lib.hid (HBX.out.trans hb3)
            clear ho3 hb3 hOX hzX g59 HBX HFS e1 e2 l1 l2 l3
            go_wp2_with fail
            refine ⟨⟨L0 ++ [m], a + (10 + n), f, by go_num, by omega, by omega, ?_, HO3.out, HB3.out⟩, ?_⟩
            · rw [HEn.out, List.map_append, List.append_assoc]; rfl
            · simp only [intOf]; omega
        · have hmi : (2305843009213693951 : Int) < (Xn : Int) := by omega
          have hg : goodN (fstT R) = false := by
            cases hg : goodN (fstT R)
            · rfl
            · have := goodN_id hg
              rw [HF.out] at this
              simp only at this
              unfold wrap64 at this
              omega
          have HD := Lib.hid (dec_bad HEn.out (.inr hg))
          clear hg HEn HF
          go_wp2_with (go_at_call 36; refine HWd.out.mono ?_; rintro e w2 ⟨rfl, hb2⟩; have HB2 := Lib.hid (hb.trans ((HBw.out.trans (hb2.mono HBw.out.size)).mono hz)); clear hb2)
          go_ret2
          exact ⟨_, _, rfl, .inl ⟨rfl, HD.out.1⟩, HB2.out⟩
      · have hwi : (s.size : Int) < (a : Int) + 10 + (n : Int) := by omega
        have hwB : wholeB R = false := by unfold wholeB; rw [decide_eq_false_iff_not]; omega
        have hbad := dec_bad (s := s) (A := L0.map fun m => (m, true)) (x := (zeroN, false)) (T := []) (by rw [hEn, entF, if_neg hRne, if_neg (by rw [hwB]; decide)]) (.inl rfl)
        have HD := Lib.hid hbad
        clear hbad hwB hcR hRg hRl hEn hR hRz hn hRne hs1
        go_wp2_with fail
        go_ret2
        exact ⟨_, _, rfl, .inl ⟨rfl, HD.out.1⟩, hb⟩
    · obtain rfl : a = s.size := by omega
      have hnl : ¬ (s.size : Int) < (s.size : Int) := by omega
      have hEe : allEn s = L0.map fun m => (m, true) := by
        rw [hEn]
        have : entF f (s.extract s.size s.size) = [] := by
          cases f with
          | zero => rfl
          | succ f => rw [entF, if_pos (by rw [ByteArray.size_extract]; omega)]
        rw [this, List.append_nil]
      have HD := Lib.hid (dec_end hEe hs)
      obtain ⟨pv, cv, rfl, -, hRw⟩ := own_rat hown
      have HRt := Lib.hid (refRight_any pv cv L0 wr (by omega) hRw.row)
      clear hEe hEn hs1
      cases hr : rightL L0
      · rw [hr] at HRt HD
        go_wp2_with (go_at_call 13; refine HRt.out.mono ?_; rintro e w2 ⟨rfl, hb2⟩)
        go_ret2
        exact ⟨_, _, rfl, .inl ⟨rfl, HD.out.1⟩, hb.trans (hb2.mono hz)⟩
      · rw [hr] at HRt HD
        go_wp2_with (go_at_call 13; refine HRt.out.mono ?_; rintro e w2 ⟨rfl, hb2⟩)
        go_ret2
        exact ⟨_, _, rfl, .inr ⟨rfl, HD.out.1, by rw [HD.out.2]; exact hown.mono hb2⟩, hb.trans (hb2.mono hz)⟩
end Go.Proofs.YthifejdphflfpaaDoor
