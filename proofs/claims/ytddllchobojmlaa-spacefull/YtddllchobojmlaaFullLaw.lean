/- SpaceFull. -/
import Derived.Test.YtddllchobojmlaaLives
import Derived.Test.YtddllchobojmlaaFullF
import Derived.Test.YtddllchobojmlaaOpenS
import Derived.Test.YtddllchobojmlaaCut
import Derived.Deep.DeepCutAuto
namespace Go.Proofs.Ytddllchobojmlaa
open Go.RowKit Go.Sort
theorem intInfo : (Try.prog.info? 3).map (fun i => (i.zero, i.size, i.bytes)) = some (some (.int .i64 0), 1, 8) := by kernel_rfl
def nvs (L : List Nat) : List Value := L.map fun (n : Nat) => .int .i64 (n : Int)
theorem nvs_len (L : List Nat) : (nvs L).length = L.length := by simp [nvs]
theorem nvs_one (L : List Nat) : ∀ u ∈ nvs L, u.oneCell' = true := fun u hu => by
  obtain ⟨n, _, rfl⟩ := List.mem_map.1 hu; rfl
theorem app_int {W : World} {ops : Array Oper} {rest : List Oper} {o : Oper} {a : Act} {Q : Exit → Act → World → Prop} (hgd : o.guard = none) (s x : Operand)
    (ho : o.op = .call { callee := .builtin .append, args := #[s, x], argTypes := #[43, 43] }) (base : Nat) (v : Value) (L Y : List Nat) (ad : Addr) (c : Nat) (hs : a.eval s = v) (hown : W.ownsRow base 3 1 v L.length (nvs L)) (hb : base ≤ W.heap.size) (hn : L.length + Y.length < 1000000)
    (hx : a.eval x = .slice (some ad) Y.length c) (hc : ∀ j u, (nvs Y)[j]? = some u → W.cell? (ad.add j) = some u)
    (h : ∀ v' w', w'.ownsRow base 3 1 v' (L ++ Y).length (nvs (L ++ Y)) → Below base W w' → wpList Try.prog ops Q rest (a.put o.dst v') w') : wpList Try.prog ops Q (o :: rest) a W := by
  obtain ⟨i0, hi, hz0, hz1, hz2⟩ := info_parts' intInfo
  refine wpList_append_own _ hgd s x 43 ho base 3 i0 (.int .i64 0) 1 8 Try.underlying43 hi hz0 hz1 hz2 rfl (by decide) v L.length (nvs L) hs hown ad Y.length c (nvs Y) hx (by rw [nvs_len]; omega) hc (nvs_one _) (by unfold maxLen; omega) (by omega) hb ?_
  intro v' w' h1 h2 _
  refine h v' w' ?_ (Below.grown (Below.refl _ _) h2 hb (fun j hj => (hown.lt j hj).1))
  rw [List.length_append, show nvs (L ++ Y) = nvs L ++ nvs Y from by simp [nvs]]
  exact h1
theorem int_new (W : World) (y : Int) (B : Nat) (hB : B = W.heap.size) : ∀ j u, [Value.int .i64 y][j]? = some u → (W.alloc (.cells #[.int .i64 y] 3)).cell? ((⟨B, 0, none⟩ : Addr).add j) = some u := fun j u hu => by
  subst hB
  match j, hu with
  | 0, hu => simp at hu; subst hu; simp [Addr.add, go_sem]
theorem nvs_get {L : List Nat} {i : Nat} {u : Value} (h : (nvs L)[i]? = some u) : ∃ h : i < L.length, u = .int .i64 (L[i] : Nat) := by
  unfold nvs at h
  rw [List.getElem?_map] at h
  obtain ⟨c, hc, rfl⟩ := Option.map_eq_some_iff.1 h
  obtain ⟨hi, rfl⟩ := List.getElem?_eq_some_iff.1 hc
  exact ⟨hi, rfl⟩
theorem exec_hiI {o : Oper} {ev : Operand → Value} {x y : Operand} {g n cap k : Nat} (ho : o.op = Op.slice 43 x none (some y) none) (hx : ev x = .slice (some ⟨g, 0, none⟩) n cap) (hy : ev y = .int .i64 (k : Int)) (hk : k ≤ cap) (w : World) :
    (execOp ev o).run Try.prog w = .ok (.value (.slice (some ⟨g, 0, none⟩) k cap)) w := by
  have hkc : (k : Int) ≤ (cap : Int) := by omega
  obtain ⟨i0, hi, hz0, hz1, hz2⟩ := info_parts' intInfo
  simp [execOp, ho, hx, hy, Instr.sliceAt, run_underlying Try.underlying43, Instr.slice, go_sem, hkc, sizeOf, typeInfo, hi]
theorem exec_loI {o : Oper} {ev : Operand → Value} {x y : Operand} {g n cap k : Nat} {AD : Addr} (hAD : (if cap = k + 1 then (⟨g, 0, none⟩ : Addr) else ⟨g, k + 1, none⟩) = AD) (ho : o.op = Op.slice 43 x (some y) none none) (hx : ev x = .slice (some ⟨g, 0, none⟩) n cap) (hy : ev y = .int .i64 ((k + 1 : Nat) : Int)) (hk : k < n) (w : World) :
    (execOp ev o).run Try.prog w = .ok (.value (.slice (some AD) (n - (k + 1)) (cap - (k + 1)))) w := by
  have hkc : ((k + 1 : Nat) : Int) ≤ (n : Int) := by omega
  obtain ⟨m, hm⟩ : ∃ m, k + 1 = m := ⟨_, rfl⟩
  rw [hm] at hy hkc hAD ⊢
  obtain ⟨i0, hi, hz0, hz1, hz2⟩ := info_parts' intInfo
  subst hAD
  by_cases h : cap = m
  · simp [execOp, ho, hx, hy, Instr.sliceAt, run_underlying Try.underlying43, Instr.slice, go_sem, hkc, sizeOf, typeInfo, hi, hz1, h]
  · simp [execOp, ho, hx, hy, Instr.sliceAt, run_underlying Try.underlying43, Instr.slice, go_sem, hkc, sizeOf, typeInfo, hi, hz1, h]
theorem exec_appI {o : Oper} {ev : Operand → Value} {x y : Operand} {t : TypeId} {w w' : World} {v' vs vx : Value} (ho : o.op = .call { callee := .builtin .append, args := #[x, y], argTypes := #[t, t] }) (hx : ev x = vs) (hy : ev y = vx) (hr : (Builtin.append_ #[t, t] o.type #[vs, vx]).run Try.prog w = .ok v' w') : (execOp ev o).run Try.prog w = .ok (.value v') w' := by
  unfold execOp
  simp only [ho, resolve, invoke, builtin, Sem.run_bind, Sem.run_pure, Result.andThen_ok, List.map_toArray, List.map_cons, List.map_nil, hx, hy, hr]
theorem run_appI {W : World} {base : Nat} {v : Value} {L : List Nat} (hown : W.ownsRow base 3 1 v L.length (nvs L)) (hb : base ≤ W.heap.size) {Y : List Nat} {ad : Addr} {c : Nat} (hn : L.length + Y.length < 1000000) (hc : ∀ j u, (nvs Y)[j]? = some u → W.cell? (ad.add j) = some u) :
    ∃ v' w5, (Builtin.append_ #[43, 43] 43 #[v, .slice (some ad) Y.length c]).run Try.prog W = .ok v' w5 ∧ w5.ownsRow base 3 1 v' (L ++ Y).length (nvs (L ++ Y)) ∧ Below base W w5 := by
  obtain ⟨i0, hi, hz0, hz1, hz2⟩ := info_parts' intInfo
  obtain ⟨v', w5, h1, h2, h3, _⟩ := run_append_own W base 43 43 3 i0 (.int .i64 0) 1 8 Try.underlying43 hi hz0 hz1 hz2 rfl (by decide) v L.length (nvs L) hown ad Y.length c (nvs Y) (by rw [nvs_len]; omega) hc (nvs_one _) (by unfold maxLen; omega) (by omega) hb
  refine ⟨v', w5, h1, ?_, Below.grown (Below.refl _ _) h3 hb (fun j hj => (hown.lt j hj).1)⟩
  rw [List.length_append, show nvs (L ++ Y) = nvs L ++ nvs Y from by simp [nvs]]
  exact h2
set_option maxRecDepth 100000 in
set_option maxHeartbeats 4000000 in
theorem SpaceFull_any (p : Option Addr) (cap : Nat) (o : List Int) (gap : Int) (w : World) (ho : IntsAt w p o) :
    Calls Try.prog 8 #[.slice p o.length cap, .int .i64 gap] w fun e w' => e = .returned (.bool true) ∧ Below w.heap.size w w' := by
  go_enter Try.func8, Try.ntmps8
  go_wp2_with (go_at_call 9; refine (lives_any _).mono ?_; rintro e w1 ⟨rfl, hb1⟩; refine Hid.out ?_)
  refine Lib.hid ?_
  have hgw : 0 ≤ IntKind.u64.wrap gap := by rw [IntKind.wrap_u64]; omega
  have hgt : (IntKind.u64.wrap gap).tmod 1000 = (IntKind.u64.wrap gap) % 1000 := Int.tmod_eq_emod_of_nonneg hgw
  obtain ⟨G, hG⟩ : ∃ G, wrap64 ((IntKind.u64.wrap gap).tmod 1000) = G := ⟨_, rfl⟩
  have hG2 : 0 ≤ G ∧ G ≤ 999 := by rw [← hG, hgt]; unfold wrap64; omega
  clear hgt hgw
  have HG := Lib.hid hG
  clear hG
  go_wp2_with fail
  rw [HG.out]
  clear HG
  go_loopw [5, 6] (fun v i wr => ∃ k : Nat, k ≤ 16 ∧ i = .int .i64 k ∧ wr.ownsRow w1.heap.size 3 1 v (List.range k).length (nvs (List.range k)) ∧ Below w1.heap.size w1 wr) (fun _ i _ => 16 - (intOf i).toNat)
  case atStart => exact ⟨0, by omega, rfl, World.ownsRow_nil _ _ _ _, Below.refl _ _⟩
  case round =>
    obtain ⟨k, hk, rfl, hown, hb⟩ := hrel
    have hz := hb.size
    by_cases hlt : k < 16
    · have hki : (k : Int) < 16 := by omega
      have HOwn := Lib.hid (hown.alloc (.cells #[.int .i64 (k : Int)] 3))
      have hbz : w1.heap.size ≤ (wr.alloc (.cells #[.int .i64 (k : Int)] 3)).heap.size := by simp; omega
      have hbX : Below w1.heap.size w1 (wr.alloc (.cells #[.int .i64 (k : Int)] 3)) := hb.alloc hz _
      have HN := Lib.hid (int_new wr (k : Int) wr.heap.size rfl)
      clear hown
      go_wp2_with (at_builtin; refine app_int rfl _ _ rfl w1.heap.size u5 (List.range k) [k] ⟨wr.heap.size, 0, none⟩ 1 rfl HOwn.out hbz (by simp; omega) rfl HN.out ?_; intro v' w5 hown' hb5; have HO := Lib.hid hown'; have HB := Lib.hid hb5; clear hown' hb5)
      go_roundw
      case rel => exact ⟨k + 1, by omega, by go_num, by rw [List.range_succ]; exact HO.out, hbX.trans HB.out⟩
      case measure => simp [intOf]; omega
    · obtain rfl : k = 16 := by omega
      have hkk : ¬ ((16 : Nat) : Int) < 16 := by omega
      go_wp2_with fail
      clear hk hlt hkk
      obtain ⟨W3, hW3⟩ : ∃ W3, wr = W3 := ⟨_, rfl⟩
      rw [hW3] at hown hb hz ⊢
      clear hW3
      have hs1 : 4 ≤ 4 + G := by omega
      have hs2 : 4 + G ≤ 1003 := by omega
      go_loopw [5, 7, 8] (fun v5 v7 iv wr => ∃ (i : Nat) (L : List Nat), iv = .int .i64 i ∧ i + L.length = 16 ∧ L.Nodup ∧ (∀ x ∈ L, x < 16) ∧ wr.ownsRow w1.heap.size 3 1 v5 L.length (nvs L) ∧ wr.ownsRow w1.heap.size 24 7 v7 (rowOf (4 + G) L).length (flat (rowOf (4 + G) L)) ∧ Below w1.heap.size w1 wr) (fun _ _ i _ => 16 - (intOf i).toNat)
      case atStart =>
        refine ⟨0, List.range 16, rfl, by simp, List.nodup_range, fun x hx => List.mem_range.1 hx, hown, ?_, hb⟩
        rw [row_none]; exact World.ownsRow_nil _ _ _ _
      case round =>
        obtain ⟨i, L, rfl, hiL, hnd, hL16, hown5, hown7, hbr⟩ := hrel
        have hzr := hbr.size
        have hB1r : Below w.heap.size w wr := hb1.trans (hbr.mono hb1.size)
        by_cases hL0 : 0 < L.length
        · obtain ⟨g5, c5, rfl⟩ : ∃ g c, u5 = .slice (some ⟨g, 0, none⟩) L.length c := by
            rcases hown5.2 with ⟨_, h0⟩ | ⟨g, c, _, hv, _⟩
            · omega
            · exact ⟨g, c, hv⟩
          obtain ⟨p7, c7, rfl, -, hR7⟩ := own_rat hown7
          have hg5 := hown5.lt g5 rfl
          have hLi : (0 : Int) < (L.length : Int) := by omega
          have HOr := Lib.hid (ho.below hB1r)
          clear hown7
          have hki0 : (i : Int) < 17 := by omega
          go_upto_if 41 with fail
          go_cut [9] (fun kv wx => ∃ k : Nat, kv = .int .i64 k ∧ k < L.length ∧ wx = wr)
          case first =>
            by_cases hio : i < o.length
            · have hioi : (i : Int) < (o.length : Int) := by omega
              have hiob : decide (i < o.length) = true := by simpa using hio
              obtain ⟨b, off, rfl, hbl, hc⟩ := HOr.out i hio
              have hw1 : IntKind.u64.wrap (L.length : Int) = (L.length : Int) := by rw [IntKind.wrap_u64]; omega
              obtain ⟨U, hU⟩ : ∃ U, IntKind.u64.wrap o[i] = U := ⟨_, rfl⟩
              have hw0 : 0 ≤ U := by rw [← hU, IntKind.wrap_u64]; omega
              have hne : ¬ ((L.length : Int) = 0) := by omega
              have hneb : ((L.length : Int) == 0) = false := by simpa using hne
              obtain ⟨M, htm, hm2⟩ : ∃ M : Nat, U.tmod (L.length : Int) = (M : Int) ∧ M < L.length := by
                have h1 := Int.emod_nonneg U hne
                have h2 := Int.emod_lt_of_pos U hLi
                exact ⟨(U % (L.length : Int)).toNat, by rw [Int.tmod_eq_emod_of_nonneg hw0]; omega, by omega⟩
              have hw3 : wrap64 (M : Int) = (M : Int) := by unfold wrap64; omega
              clear HOr hw0 hne ho hR7 hown5
              go_wp2_with fail
              go_meet
              exact ⟨M, by rw [hw3], hm2, rfl⟩
            · have hioi : ¬ (i : Int) < (o.length : Int) := by omega
              have hiob : decide (i < o.length) = false := by simpa using hio
              clear HOr ho hR7 hown5
              go_wp2_with fail
              go_meet
              exact ⟨0, rfl, hL0, rfl⟩
          case rest =>
            obtain ⟨k, rfl, hk, hwc⟩ := hcut
            rw [hwc]
            clear hwc
            have hki : (k : Int) < (L.length : Int) := by omega
            have ck : wr.cell? ⟨g5, k, none⟩ = some (.int .i64 (L[k] : Nat)) := by
              rw [hown5.cellAt k (by omega)]; unfold nvs; rw [List.getElem?_map, List.getElem?_eq_getElem hk]; rfl
            have hg5r : g5 < wr.heap.size := hg5.2
            go_upto_region 17 with fail
            have hc5 : L.length ≤ c5 := by
              rcases hown5.2 with ⟨h', _⟩ | ⟨g', cap', cur, h', _, _, hc, _⟩
              · simp at h'
              · simp only [Value.slice.injEq, Option.some.injEq, Addr.mk.injEq, and_true, true_and] at h'
                omega
            have hkc : k ≤ c5 := by omega
            obtain ⟨AD, hAD⟩ : ∃ AD, (if c5 = k + 1 then (⟨g5, 0, none⟩ : Addr) else ⟨g5, k + 1, none⟩) = AD := ⟨_, rfl⟩
            have hcellL : ∀ W, Below wr.heap.size wr W → ∀ j (h : j < L.length), W.cell? ⟨g5, j, none⟩ = some (.int .i64 (L[j] : Nat)) := fun W hW j h =>
              (hW.cell (p := ⟨g5, j, none⟩) hg5r).trans (by rw [hown5.cellAt j (by omega)]; unfold nvs; rw [List.getElem?_map, List.getElem?_eq_getElem h]; rfl)
            have hbA0 : Below wr.heap.size wr (wr.drew.alloc (.cells #[] 3)) := (Below.refl wr.heap.size wr).drew.alloc (Nat.le_refl _) _
            have HAP1 : Hid (∃ v' w5, (Builtin.append_ #[43, 43] 43 #[.slice (some ⟨wr.heap.size, 0, none⟩) 0 0, .slice (some ⟨g5, 0, none⟩) k c5]).run Try.prog (wr.drew.alloc (.cells #[] 3)) = .ok v' w5 ∧ w5.ownsRow wr.heap.size 3 1 v' (L.take k).length (nvs (L.take k)) ∧ Below wr.heap.size wr w5) := by
              have hO0 : (wr.drew.alloc (.cells #[] 3)).ownsRow wr.heap.size 3 1 (.slice (some ⟨wr.heap.size, 0, none⟩) 0 0) ([] : List Nat).length (nvs []) := World.ownsRow_lit (base := wr.heap.size) (e := 3) (size := 1) wr.drew #[] 0 (Nat.le_refl _) (by decide) rfl
              have hlk : (L.take k).length = k := by rw [List.length_take]; omega
              have := run_appI hO0 (by simp) (Y := L.take k) (ad := ⟨g5, 0, none⟩) (c := c5) (by simp; omega) (fun j u hu => by
                obtain ⟨hj, rfl⟩ := nvs_get hu
                rw [hlk] at hj
                rw [addr_plus, Nat.zero_add, hcellL _ hbA0 j (by omega), List.getElem_take])
              rw [hlk] at this ⊢
              obtain ⟨v', w5, h1, h2, h3⟩ := this
              simp only [List.nil_append, hlk] at h2
              exact ⟨v', w5, h1, h2, hbA0.trans h3⟩
            have HAP2 : Hid (∀ w' v, w'.ownsRow wr.heap.size 3 1 v (L.take k).length (nvs (L.take k)) → Below wr.heap.size wr w' → ∃ v' w5, (Builtin.append_ #[43, 43] 43 #[v, .slice (some AD) (L.length - (k + 1)) (c5 - (k + 1))]).run Try.prog w' = .ok v' w5 ∧ w5.ownsRow wr.heap.size 3 1 v' (L.take k ++ L.drop (k + 1)).length (nvs (L.take k ++ L.drop (k + 1))) ∧ Below wr.heap.size wr w5) := fun w' v hO hB => by
              have hlk : (L.drop (k + 1)).length = L.length - (k + 1) := by rw [List.length_drop]
              have := run_appI hO hB.size (Y := L.drop (k + 1)) (ad := AD) (c := c5 - (k + 1)) (by simp; omega) (fun j u hu => by
                obtain ⟨hj, rfl⟩ := nvs_get hu
                rw [hlk] at hj
                rw [← hAD, if_neg (by omega), addr_plus, hcellL _ hB (k + 1 + j) (by omega), List.getElem_drop])
              rw [hlk] at this
              obtain ⟨v', w5, h1, h2, h3⟩ := this
              exact ⟨v', w5, h1, h2, hB.trans h3⟩
            have HR7 := Lib.hid hR7
            have hwk : IntKind.i64.wrap ((k : Int) + 1) = (k : Int) + 1 := by rw [IntKind.wrap_i64]; omega
            clear hcellL hown5 hbA0 HOr ho hR7 ck
            refine wp_region_inv (I := (fun li a' w' => ∃ (b0 b1 b2 b3 b4 b5 b6 b7 b8 b9 b10 : Bool) (t5 t56 t57 t58 t59 t60 t61 t62 t63 t64 t65 : Value), li = #[b0, b1, b2, b3, b4, b5, b6, b7, b8, b9, b10] ∧ a' = { tmps := #[Value.slice p o.length cap, Value.int IntKind.i64 G, undef, undef, u4, t5, Value.int IntKind.i64 16, Value.slice p7 (rowOf (4 + G) L).length c7, Value.int IntKind.i64 ↑i, Value.int IntKind.i64 ↑k, Value.int IntKind.i64 ↑L[k], u11, u12, undef, undef, undef, undef, undef, undef, Value.bool true, Value.bool false, Value.int IntKind.i64 gap, Value.int IntKind.u64 (IntKind.u64.wrap gap), Value.int IntKind.u64 ((IntKind.u64.wrap gap).tmod 1000), Value.int IntKind.i64 G, Value.int IntKind.i64 16, Value.bool false, u27, u28, u29, u30, u31, u32, u33, u34, u35, u36, u37, u38, u39, u40, u41, u42, u43, u44, u45, u46, u47, u48, u49, u50, u51, Value.slice (some ⟨g5, 0, none⟩) L.length c5, Value.int IntKind.i64 ↑k, Value.pointer (some ⟨g5, k, none⟩), Value.int IntKind.i64 ↑L[k], t56, t57, t58, t59, t60, t61, t62, t63, t64, t65, u66, u67, u68, u69, u70, u71, u72, u73, u74, u75, u76, u77, u78, u79, u80, undef, undef, undef, undef, undef, undef, undef, undef, undef, undef, undef, undef, undef, undef, undef, undef, undef, undef, undef, undef, undef, undef, undef, undef, undef, undef, undef, undef, undef, undef, undef, undef, undef, undef, undef, undef, undef, undef, undef, undef, undef, undef, undef, undef, undef], defers := [] } ∧ (b0 = true → t56 = .slice (some ⟨wr.heap.size, 0, none⟩) 0 0) ∧ (b1 = true → t57 = .slice (some ⟨g5, 0, none⟩) L.length c5) ∧ (b2 = true → t58 = .int .i64 (k : Int)) ∧ (b3 = true → t59 = .slice (some ⟨g5, 0, none⟩) k c5) ∧ (b5 = true → t61 = .slice (some ⟨g5, 0, none⟩) L.length c5) ∧ (b6 = true → t62 = .int .i64 (k : Int)) ∧ (b7 = true → t63 = .int .i64 ((k + 1 : Nat) : Int)) ∧ (b8 = true → t64 = .slice (some AD) (L.length - (k + 1)) (c5 - (k + 1))) ∧ (b10 = true → t5 = t65) ∧ (b10 = true → b9 = true) ∧ (b9 = true → b4 = true ∧ b8 = true) ∧ (b4 = true → b3 = true) ∧ (b3 = true → b1 = true) ∧ (b8 = true → b5 = true) ∧ (b10 = false → t5 = .slice (some ⟨g5, 0, none⟩) L.length c5) ∧ ((b0 = false ∧ b4 = false ∧ b9 = false ∧ w' = wr.drew) ∨ (b0 = true ∧ b4 = false ∧ b9 = false ∧ w' = (wr.drew.alloc (.cells #[] 3))) ∨ (b0 = true ∧ b4 = true ∧ b9 = false ∧ (w'.ownsRow wr.heap.size 3 1 t60 (L.take k).length (nvs (L.take k)) ∧ Below wr.heap.size wr w')) ∨ (b0 = true ∧ b4 = true ∧ b9 = true ∧ (w'.ownsRow wr.heap.size 3 1 t65 (L.take k ++ L.drop (k + 1)).length (nvs (L.take k ++ L.drop (k + 1))) ∧ Below wr.heap.size wr w'))))) (by kernel_rfl) ?step ?fin ⟨false, false, false, false, false, false, false, false, false, false, false, _, _, _, _, _, _, _, _, _, _, _, rfl, rfl, by simp, by simp, by simp, by simp, by simp, by simp, by simp, by simp, by simp, by simp, by simp, by simp, by simp, by simp, (fun _ => rfl), .inl ⟨rfl, rfl, rfl, rfl⟩⟩
            case step =>
              rintro li a' w' i' o' ⟨b0, b1, b2, b3, b4, b5, b6, b7, b8, b9, b10, t5, t56, t57, t58, t59, t60, t61, t62, t63, t64, t65, rfl, rfl, f0, f1, f2, f3, f5, f6, f7, f8, f10, y1, y2, y3, y4, y5, y6, hst⟩ hu ho hd
              have hi' : i' < 11 := (Array.getElem?_eq_some_iff.1 ho).1
              obtain rfl | rfl | rfl | rfl | rfl | rfl | rfl | rfl | rfl | rfl | rfl : i' = 0 ∨ i' = 1 ∨ i' = 2 ∨ i' = 3 ∨ i' = 4 ∨ i' = 5 ∨ i' = 6 ∨ i' = 7 ∨ i' = 8 ∨ i' = 9 ∨ i' = 10 := by omega
              · obtain rfl : _ = o' := Option.some.inj ho
                have ui : b0 = false := hu
                have hw' : w' = wr.drew ∧ b4 = false ∧ b9 = false := by
                  rcases hst with ⟨_, h1, h2, h⟩ | ⟨h, _⟩ | ⟨h, _⟩ | ⟨h, _⟩
                  · exact ⟨h, h1, h2⟩
                  · rw [ui] at h; cases h
                  · rw [ui] at h; cases h
                  · rw [ui] at h; cases h
                obtain ⟨rfl, h4, h9⟩ := hw'
                refine ⟨rfl, .inl ⟨.slice (some ⟨wr.heap.size, 0, none⟩) 0 0, (wr.drew.alloc (.cells #[] 3)), ?_, ⟨true, b1, b2, b3, b4, b5, b6, b7, b8, b9, b10, _, _, _, _, _, _, _, _, _, _, _, rfl, rfl, (fun _ => rfl), f1, f2, f3, f5, f6, f7, f8, f10, y1, y2, y3, y4, y5, y6, .inr (.inl ⟨rfl, h4, h9, rfl⟩)⟩⟩⟩
                clear hst hu ho hd
                go_simp
              · obtain rfl : _ = o' := Option.some.inj ho
                have ui : b1 = false := hu
                have hb10 : b10 = false := by
                  cases h : b10 with
                  | false => rfl
                  | true => have h2 := y4 (y3 (y2 (y1 h)).1); rw [ui] at h2; cases h2
                have g5' := y6 hb10
                refine ⟨rfl, .inl ⟨.slice (some ⟨g5, 0, none⟩) L.length c5, w', ?_, ⟨b0, true, b2, b3, b4, b5, b6, b7, b8, b9, b10, _, _, _, _, _, _, _, _, _, _, _, rfl, rfl, f0, (fun _ => rfl), f2, f3, f5, f6, f7, f8, f10, y1, y2, y3, (fun _ => rfl), y5, y6, hst⟩⟩⟩
                rw [g5']
                clear hst hu ho hd
                go_simp
              · obtain rfl : _ = o' := Option.some.inj ho
                have ui : b2 = false := hu
                refine ⟨rfl, .inl ⟨.int .i64 (k : Int), w', ?_, ⟨b0, b1, true, b3, b4, b5, b6, b7, b8, b9, b10, _, _, _, _, _, _, _, _, _, _, _, rfl, rfl, f0, f1, (fun _ => rfl), f3, f5, f6, f7, f8, f10, y1, y2, y3, y4, y5, y6, hst⟩⟩⟩
                clear hst hu ho hd
                go_simp
              · obtain rfl : _ = o' := Option.some.inj ho
                have ui : b3 = false := hu
                have e1 : b1 = true := hd ⟨1, .data⟩ (by simp) rfl
                have g1 := f1 e1
                subst g1
                have e2 : b2 = true := hd ⟨2, .data⟩ (by simp) rfl
                have g2 := f2 e2
                subst g2
                exact ⟨rfl, .inl ⟨_, w', exec_hiI rfl rfl rfl hkc w', ⟨b0, b1, b2, true, b4, b5, b6, b7, b8, b9, b10, _, _, _, _, _, _, _, _, _, _, _, rfl, rfl, f0, f1, f2, (fun _ => rfl), f5, f6, f7, f8, f10, y1, y2, (fun _ => rfl), (fun _ => e1), y5, y6, hst⟩⟩⟩
              · obtain rfl : _ = o' := Option.some.inj ho
                have ui : b4 = false := hu
                have e0 : b0 = true := hd ⟨0, .data⟩ (by simp) rfl
                have g0 := f0 e0
                subst g0
                have e3 : b3 = true := hd ⟨3, .data⟩ (by simp) rfl
                have g3 := f3 e3
                subst g3
                have hw' : w' = (wr.drew.alloc (.cells #[] 3)) ∧ b9 = false := by
                  rcases hst with ⟨h, _⟩ | ⟨_, _, h9, h⟩ | ⟨_, h, _⟩ | ⟨_, h, _⟩
                  · rw [e0] at h; cases h
                  · exact ⟨h, h9⟩
                  · rw [ui] at h; cases h
                  · rw [ui] at h; cases h
                obtain ⟨rfl, h9⟩ := hw'
                obtain ⟨v', w5, hrun, ho5, hb5⟩ := HAP1.out
                exact ⟨rfl, .inl ⟨v', w5, exec_appI rfl rfl rfl hrun, ⟨b0, b1, b2, b3, true, b5, b6, b7, b8, b9, b10, _, _, _, _, _, _, _, _, _, _, _, rfl, rfl, f0, f1, f2, f3, f5, f6, f7, f8, f10, y1, (fun h => ⟨rfl, (y2 h).2⟩), (fun _ => e3), y4, y5, y6, .inr (.inr (.inl ⟨e0, rfl, h9, ho5, hb5⟩))⟩⟩⟩
              · obtain rfl : _ = o' := Option.some.inj ho
                have ui : b5 = false := hu
                have hb10 : b10 = false := by
                  cases h : b10 with
                  | false => rfl
                  | true => have h2 := y5 (y2 (y1 h)).2; rw [ui] at h2; cases h2
                have g5' := y6 hb10
                refine ⟨rfl, .inl ⟨.slice (some ⟨g5, 0, none⟩) L.length c5, w', ?_, ⟨b0, b1, b2, b3, b4, true, b6, b7, b8, b9, b10, _, _, _, _, _, _, _, _, _, _, _, rfl, rfl, f0, f1, f2, f3, (fun _ => rfl), f6, f7, f8, f10, y1, y2, y3, y4, (fun _ => rfl), y6, hst⟩⟩⟩
                rw [g5']
                clear hst hu ho hd
                go_simp
              · obtain rfl : _ = o' := Option.some.inj ho
                have ui : b6 = false := hu
                refine ⟨rfl, .inl ⟨.int .i64 (k : Int), w', ?_, ⟨b0, b1, b2, b3, b4, b5, true, b7, b8, b9, b10, _, _, _, _, _, _, _, _, _, _, _, rfl, rfl, f0, f1, f2, f3, f5, (fun _ => rfl), f7, f8, f10, y1, y2, y3, y4, y5, y6, hst⟩⟩⟩
                clear hst hu ho hd
                go_simp
              · obtain rfl : _ = o' := Option.some.inj ho
                have ui : b7 = false := hu
                have e6 : b6 = true := hd ⟨6, .data⟩ (by simp) rfl
                have g6 := f6 e6
                subst g6
                refine ⟨rfl, .inl ⟨.int .i64 ((k + 1 : Nat) : Int), w', ?_, ⟨b0, b1, b2, b3, b4, b5, b6, true, b8, b9, b10, _, _, _, _, _, _, _, _, _, _, _, rfl, rfl, f0, f1, f2, f3, f5, f6, (fun _ => rfl), f8, f10, y1, y2, y3, y4, y5, y6, hst⟩⟩⟩
                clear hst hu ho hd
                go_simp
              · obtain rfl : _ = o' := Option.some.inj ho
                have ui : b8 = false := hu
                have e5 : b5 = true := hd ⟨5, .data⟩ (by simp) rfl
                have g5 := f5 e5
                subst g5
                have e7 : b7 = true := hd ⟨7, .data⟩ (by simp) rfl
                have g7 := f7 e7
                subst g7
                exact ⟨rfl, .inl ⟨_, w', exec_loI hAD rfl rfl rfl hk w', ⟨b0, b1, b2, b3, b4, b5, b6, b7, true, b9, b10, _, _, _, _, _, _, _, _, _, _, _, rfl, rfl, f0, f1, f2, f3, f5, f6, f7, (fun _ => rfl), f10, y1, (fun h => ⟨(y2 h).1, rfl⟩), y3, y4, (fun _ => e5), y6, hst⟩⟩⟩
              · obtain rfl : _ = o' := Option.some.inj ho
                have ui : b9 = false := hu
                have e4 : b4 = true := hd ⟨4, .data⟩ (by simp) rfl
                have e8 : b8 = true := hd ⟨8, .data⟩ (by simp) rfl
                have g8 := f8 e8
                subst g8
                have hw' : b0 = true ∧ (w'.ownsRow wr.heap.size 3 1 t60 (L.take k).length (nvs (L.take k)) ∧ Below wr.heap.size wr w') := by
                  rcases hst with ⟨_, h, _⟩ | ⟨_, h, _⟩ | ⟨h0, _, _, h⟩ | ⟨_, _, h, _⟩
                  · rw [e4] at h; cases h
                  · rw [e4] at h; cases h
                  · exact ⟨h0, h⟩
                  · rw [ui] at h; cases h
                obtain ⟨h0, hoA, hbA⟩ := hw'
                obtain ⟨v', w5, hrun, ho5, hb5⟩ := HAP2.out w' t60 hoA hbA
                exact ⟨rfl, .inl ⟨v', w5, exec_appI rfl rfl rfl hrun, ⟨b0, b1, b2, b3, b4, b5, b6, b7, b8, true, b10, _, _, _, _, _, _, _, _, _, _, _, rfl, rfl, f0, f1, f2, f3, f5, f6, f7, f8, (fun h => by rw [y1 h] at ui; cases ui), (fun _ => rfl), (fun _ => ⟨e4, e8⟩), y3, y4, y5, y6, .inr (.inr (.inr ⟨h0, e4, rfl, ho5, hb5⟩))⟩⟩⟩
              · obtain rfl : _ = o' := Option.some.inj ho
                have ui : b10 = false := hu
                have e9 : b9 = true := hd ⟨9, .data⟩ (by simp) rfl
                refine ⟨rfl, .inl ⟨t65, w', ?_, ⟨b0, b1, b2, b3, b4, b5, b6, b7, b8, b9, true, _, _, _, _, _, _, _, _, _, _, _, rfl, rfl, f0, f1, f2, f3, f5, f6, f7, f8, (fun _ => rfl), (fun _ => e9), y2, y3, y4, y5, (fun h => by cases h), hst⟩⟩⟩
                clear hst hu ho hd
                go_simp
            
            case fin =>
              rintro li a' w' ⟨b0, b1, b2, b3, b4, b5, b6, b7, b8, b9, b10, t5, t56, t57, t58, t59, t60, t61, t62, t63, t64, t65, rfl, rfl, f0, f1, f2, f3, f5, f6, f7, f8, f10, y1, y2, y3, y4, y5, y6, hst⟩ hrd
              have hall := ready_nil_all (by kernel_rfl) rfl hrd 10
              have e9 : b9 = true := hall 9 (by omega) (by decide)
              have g10 := f10 (hall 10 (by omega) (by decide))
              have hO : (w'.ownsRow wr.heap.size 3 1 t65 (L.take k ++ L.drop (k + 1)).length (nvs (L.take k ++ L.drop (k + 1))) ∧ Below wr.heap.size wr w') := by
                rcases hst with ⟨_, _, h, _⟩ | ⟨_, _, h, _⟩ | ⟨_, _, h, _⟩ | ⟨_, _, _, h⟩
                · rw [e9] at h; cases h
                · rw [e9] at h; cases h
                · rw [e9] at h; cases h
                · exact h
              clear hst f0 f1 f2 f3 f5 f6 f7 f8 f10 y1 y2 y3 y4 y5 y6 hall hrd e9
              rw [g10]
              clear g10
              obtain ⟨hoL, hbL⟩ := hO
              have hzL := hbL.size
              obtain ⟨hpE, hpL⟩ := put16 hs1 hs2 hnd hL16 hk
              have hn16 := hL16 L[k] (List.getElem_mem hk)
              obtain ⟨nn, hnn⟩ : ∃ nn, L[k] = nn := ⟨_, rfl⟩
              rw [hnn] at hpE hpL hn16 ⊢
              have hmul : (nn : Int) * (4 + G) ≤ 15 * 1003 := Int.mul_le_mul (by omega) hs2 (by omega) (by omega)
              have hmul0 : 0 ≤ (nn : Int) * (4 + G) := Int.mul_nonneg (by omega) (by omega)
              have hP := Put_any p7 c7 (rowOf (4 + G) L) (mk16 (4 + G) nn) w' (HR7.out.below hbL)
              rw [hpE, hpL] at hP
              have HP := Lib.hid hP
              simp only [mpV, mk16] at HP
              have hw4 : wrap64 ((nn : Int) * (4 + G)) = (nn : Int) * (4 + G) := by unfold wrap64; omega
              have hw5 : IntKind.i64.wrap ((nn : Int) * (4 + G)) = (nn : Int) * (4 + G) := by rw [IntKind.wrap_i64]; omega
              clear hP hpE hpL
              have HOL := Lib.hid hoL
              clear hoL
              go_wp2_with (go_at_call 10; refine HP.out.mono ?_; rintro e w6 ⟨v6, rfl, ho6, hb6⟩)
              have hsub : (L.take k ++ L.drop (k + 1)).Sublist L := by rw [← List.eraseIdx_eq_take_drop_succ]; exact List.eraseIdx_sublist ..
              have hlen2 : (L.take k ++ L.drop (k + 1)).length = L.length - 1 := by simp; omega
              refine ⟨⟨_, _, _, _, _, _, _, _, _, _, _, _, _, _, _, _, _, _, _, _, _, _, _, _, _, _, _, _, _, _, _, _, _, _, _, _, _, _, _, _, _, _, _, _, _, _, _, _, _, _, _, _, _, _, _, _, ⟨i + 1, L.take k ++ L.drop (k + 1), by go_num, by rw [hlen2]; omega, hsub.nodup hnd, fun x hx => hL16 x (hsub.subset hx), row_mono (row_below HOL.out hb6) hzr, row_mono ho6 (by omega), (hbr.trans (hbL.mono hzr)).trans (hb6.mono (by omega))⟩, rfl⟩, ?_⟩
              simp [intOf]; omega
        · have hL00 : L = [] := List.length_eq_zero_iff.1 (by omega)
          subst hL00
          have hLi : ¬ (0 : Int) < ((([] : List Nat).length : Nat) : Int) := by simp
          obtain ⟨sp5, c5, rfl⟩ := row_form hown5
          obtain ⟨p7, c7, rfl, -, hR7⟩ := own_rat hown7
          have hrl : (rowOf (4 + G) []).length = 16 := by rw [row_all]; simp
          have hri : ∀ j (h : j < (rowOf (4 + G) []).length), (rowOf (4 + G) [])[j] = mk16 (4 + G) j := fun j h => by simp [row_all]
          have H1 := Lib.hid (fun W (hW : Below wr.heap.size wr W) => Put_any p7 c7 (rowOf (4 + G) []) ⟨1048576, 1, 1, 99, 0, false, false⟩ W (hR7.below hW))
          have H2 := Lib.hid (fun W (hW : Below wr.heap.size wr W) => Put_any p7 c7 (rowOf (4 + G) []) ⟨3, 1, 1, 99, 0, false, false⟩ W (hR7.below hW))
          rw [full_full hs1 hs2] at H1
          rw [full_form hs1 hs2] at H2
          simp only [mpV] at H1 H2
          have HRI := Lib.hid hri
          obtain ⟨RW, hRW⟩ : ∃ RW, rowOf (4 + G) [] = RW := ⟨_, rfl⟩
          have hR16 := hR7.row
          rw [hRW] at hR7 hR16 hrl H1 H2 ⊢
          rw [hrl] at H1 H2 ⊢
          have HRI2 : Hid (∀ j (h : j < RW.length), RW[j] = mk16 (4 + G) j) := by subst hRW; exact HRI.out
          clear hown5 hown7 hri HRI
          go_wp2_with fail
          obtain ⟨W5, hW5⟩ : ∃ W5, wr = W5 := ⟨_, rfl⟩
          rw [hW5] at hR16 H1 H2 hbr hzr hB1r ⊢
          clear hW5 hR7
          go_loopw [83] (fun iv wx => ∃ t : Nat, t ≤ 16 ∧ iv = .int .i64 t ∧ Below W5.heap.size W5 wx) (fun iv _ => 16 - (intOf iv).toNat)
          case atStart => exact ⟨0, by omega, rfl, Below.refl _ _⟩
          case round =>
            obtain ⟨t, ht, rfl, hbx⟩ := hrel
            have hzx := hbx.size
            by_cases ht16 : t < 16
            · have hti : (t : Int) < 16 := by omega
              have htl : t < RW.length := by omega
              obtain ⟨b, off, rfl, hbl, hq⟩ := hR16 t htl
              rw [HRI2.out t htl] at hq
              obtain ⟨q0, q1, q2, q3, q4, q5, q6⟩ := hq.below hbx hbl
              simp only [mk16] at q0 q1 q2 q3 q4 q5 q6
              have hbw : b < wr.heap.size := by omega
              have hmul : (t : Int) * (4 + G) ≤ 15 * 1003 := Int.mul_le_mul (by omega) hs2 (by omega) (by omega)
              have hmul0 : 0 ≤ (t : Int) * (4 + G) := Int.mul_nonneg (by omega) (by omega)
              have hw4 : wrap64 ((t : Int) * (4 + G)) = (t : Int) * (4 + G) := by unfold wrap64; omega
              clear hq hR16
              go_wp2
              go_roundw
              case rel => exact ⟨t + 1, by omega, by go_num, hbx.alloc hzx _⟩
              case measure => simp [intOf]; omega
            · obtain rfl : t = 16 := by omega
              have HA := Lib.hid (H1.out _ hbx)
              clear hR16
              go_wp2_with (go_at_call 10; refine HA.out.mono ?_; rintro e w6 ⟨v6, rfl, ho6, hb6⟩; refine Hid.out ?_)
              refine Lib.hid ?_
              have hb56 : Below W5.heap.size W5 w6 := hbx.trans (hb6.mono hzx)
              have HB := Lib.hid (H2.out _ hb56)
              clear HA ho6
              go_wp2_with (go_at_call 10; refine HB.out.mono ?_; rintro e w7 ⟨v7, rfl, ho7, hb7⟩; refine Hid.out ?_)
              refine Lib.hid ?_
              clear HB ho7
              go_wp2
              go_ret
              exact ⟨rfl, hB1r.trans ((hb56.trans (hb7.mono hb56.size)).mono (by have := hB1r.size; omega))⟩
end Go.Proofs.Ytddllchobojmlaa
