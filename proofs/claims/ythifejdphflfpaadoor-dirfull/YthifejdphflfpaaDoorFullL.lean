/- DirFull: the law's walk. -/
import Derived.Test.YthifejdphflfpaaDoorFullM
namespace Go.Proofs.YthifejdphflfpaaDoor
open Go.RowKit Go.Sort
set_option maxRecDepth 100000 in
set_option maxHeartbeats 2000000 in
theorem DirFull_any (z : Int) (v : Value) (w : World) (hE : Env w) :
    Calls Tryd.prog 8 #[.int .i64 z, v] w fun e w' => e = .returned (.bool true) ∧ Below w.heap.size w w' := by
  have HL := Lib.hid (lives_any w hE)
  obtain ⟨N, hN, h3, h32⟩ : ∃ N : Nat, wrap64 (3 + wrap64 ((IntKind.u64.wrap z).tmod 30)) = (N : Int) ∧ 3 ≤ N ∧ N ≤ 32 := by
    have h0 : 0 ≤ IntKind.u64.wrap z := by rw [IntKind.wrap_u64]; omega
    have h1 : (IntKind.u64.wrap z).tmod 30 = (IntKind.u64.wrap z) % 30 := Int.tmod_eq_emod_of_nonneg h0
    refine ⟨(3 + (IntKind.u64.wrap z) % 30).toNat, ?_, by omega, by omega⟩
    rw [h1]; unfold wrap64; omega
  go_enter Tryd.func8, Tryd.ntmps8
  go_wp2_with (go_at_call 9; refine HL.out.mono ?_; rintro e w1 ⟨rfl, hb1⟩; refine Hid.out ?_)
  refine Lib.hid ?_
  go_wp2_with fail
  rw [hN]
  have HN := Lib.hid hN
  have HB1 := Lib.hid hb1
  clear hN hb1 HL hE
  go_loopw [5, 6] (fun lv i wr => ∃ (k : Nat) (L : List Nm), i = .int .i64 k ∧ Ful N k L ∧ OwnP w.heap.size L lv wr ∧ Below w.heap.size w wr) (fun _ i _ => 400 - (intOf i).toNat)
  case atStart => exact ⟨0, [], rfl, Ful.zero N, OwnP.nil _ _, HB1.out⟩
  case round =>
    obtain ⟨wo, rfl⟩ : ∃ wo, wo = wr := ⟨_, rfl⟩
    obtain ⟨k, L, rfl, hF, hoL, hB⟩ := hrel
    have hk := hF.lt h3
    have hki : (k : Int) < 400 := by omega
    have hz := hB.size
    have HF := Lib.hid hF
    have HoL := Lib.hid hoL
    have HB := Lib.hid hB
    clear hF hoL hB HB1
    go_wp2_with fail
    have hb3 : ((wo.alloc (.cells #[.int .u8 (97 + (k : Int) / 26 % 26), .int .u8 (97 + (k : Int) % 26), .int .u8 (48 + (k : Int) / 676)] 5)).ownsRow wo.heap.size 5 1 (.slice (some ⟨wo.heap.size, 0, none⟩) 3 3) (fulL k 3).length (u8s (fulL k 3))) := by
      have h := World.ownsRow_lit (base := wo.heap.size) (e := 5) (size := 1) wo #[.int .u8 (97 + (k : Int) / 26 % 26), .int .u8 (97 + (k : Int) % 26), .int .u8 (48 + (k : Int) / 676)] 3 (Nat.le_refl _) (by decide) rfl
      have e : u8s (fulL k 3) = [.int .u8 (97 + (k : Int) / 26 % 26), .int .u8 (97 + (k : Int) % 26), .int .u8 (48 + (k : Int) / 676)] := by
        unfold u8s fulL
        simp only [Nat.sub_self, List.replicate_zero, List.append_nil, List.map_cons, List.map_nil, bU_val]
        rw [Int.emod_eq_of_lt (a := 97 + (k : Int) / 26 % 26) (by omega) (by omega), Int.emod_eq_of_lt (a := 97 + (k : Int) % 26) (by omega) (by omega), Int.emod_eq_of_lt (a := 48 + (k : Int) / 676) (by omega) (by omega)]
      rw [e, fulL_len k 3 (Nat.le_refl _)]
      exact h
    have HW3 : Below wo.heap.size wo (wo.alloc (.cells #[.int .u8 (97 + (k : Int) / 26 % 26), .int .u8 (97 + (k : Int) % 26), .int .u8 (48 + (k : Int) / 676)] 5)) := (Below.refl _ _).alloc (Nat.le_refl _) _
    go_loopw [7] (fun s wr => ∃ j : Nat, 3 ≤ j ∧ j ≤ N ∧ wr.ownsRow wo.heap.size 5 1 s (fulL k j).length (u8s (fulL k j)) ∧ Below wo.heap.size wo wr) (fun s _ => match s with | .slice _ n _ => N - n | _ => 0)
    case atStart => exact ⟨3, by omega, h3, hb3, HW3⟩
    case round =>
      obtain ⟨j, hj3, hjN, hown, hB2⟩ := hrel
      have hz2 := hB2.size
      have hjl := fulL_len k j hj3
      have hform := row_form hown
      clear hb3 HW3
      obtain ⟨sp, cp, rfl⟩ : ∃ sp cp, u7 = .slice sp j cp := by
        rcases hown.2 with ⟨h, h0⟩ | ⟨g, c, cur, h, _⟩
        · omega
        · exact ⟨_, c, by rw [h, hjl]⟩
      clear hform
      have HOw := Lib.hid hown
      have HJL := Lib.hid hjl
      have HB2 := Lib.hid hB2
      by_cases hlt : j < N
      · have hji : (j : Int) < (N : Int) := by omega
        have hjn : (fulL k j).length < 1099511627778 := by omega
        have HN1 := Lib.hid (fulL_succ k j hj3)
        clear hown hjl hB2
        go_wp2_with (at_builtin; refine app_u8 rfl _ _ rfl wo.heap.size (.slice sp j cp) (fulL k j) 120 120 (by decide) rfl HOw.out hz2 hjn wr.heap.size rfl rfl ?_; intro v2 w2 ho2 hb2 hk2; have HO2 := Lib.hid ho2; have HB3 := Lib.hid hb2; clear ho2 hb2 hk2)
        go_roundw
        case rel => exact ⟨j + 1, by omega, by omega, by rw [HN1.out]; exact HO2.out, HB2.out.trans HB3.out⟩
        case measure =>
          have ho := HO2.out
          have hl2 : (fulL k j ++ [bU 120]).length = j + 1 := by rw [List.length_append, HJL.out]; rfl
          rcases ho.2 with ⟨_, h0⟩ | ⟨g, c, cur, h, _⟩
          · omega
          · rw [h, hl2]; simp; omega
      · obtain rfl : j = N := by omega
        have hji : ¬ (j : Int) < (j : Int) := by omega
        obtain ⟨g, rfl⟩ : ∃ g, sp = some ⟨g, 0, none⟩ := by
          rcases hown.2 with ⟨h, h0⟩ | ⟨g, c, cur, h, _⟩
          · omega
          · simp only [Value.slice.injEq] at h; exact ⟨g, h.1⟩
        have hcl := hown.cells (g := g) rfl
        have hcv : Sem.run Tryd.prog (convert 51 9 (.slice (some ⟨g, 0, none⟩) j cp)) wr = .ok (.string (fulB k j)) wr := by
          have h := run_convert_bytes_back (P := Tryd.prog) wr 51 9 5 ⟨g, 0, none⟩ cp (fulL k j) Tryd.underlying51 Tryd.underlying5 Tryd.underlying9 (fun i hi => hcl i _ (by unfold u8s; rw [List.getElem?_map, List.getElem?_eq_getElem hi]; rfl))
          rw [hjl] at h; exact h
        obtain ⟨pL, cL, rfl, -, hRL⟩ := own_rat (HoL.out.mono hB2)
        have hput := HF.out.put h3 h32
        have hLl : (L.length : Int) = (k : Int) := by rw [HF.out.len]
        have hroom := HF.out.room h3
        have HP := Lib.hid (Put_any pL cL L (fulN k j) wr hRL)
        rw [show nmV (fulN k j) = .agg #[.string (fulB k j), .int .i64 (1 + (k : Int) % 2), .int .i64 (1 + (k : Int))] from rfl] at HP
        have HLl := Lib.hid hLl
        clear hown hjl hB2 hcl hRL hLl HOw
        by_cases hlast : ((k : Int) + 1) * ((j : Int) + 10) ≤ 4096
        · rw [if_pos hlast] at hput
          have hpl : putL L (fulN k j) = insL L (fulN k j) := by unfold putL; rw [if_pos hput]
          rw [hput, hpl] at HP
          have HPU := Lib.hid hput
          clear hput hpl hlast hroom
          go_wp2_with (go_at_call 10; refine HP.out.mono ?_; rintro e w2 ⟨v2, rfl, ho2, hb2⟩; have HO2 := Lib.hid ho2; have HB3 := Lib.hid hb2; clear ho2 hb2)
          go_roundw
          case rel => exact ⟨k + 1, insL L (fulN k j), by go_num, HF.out.next HPU.out, OwnP.le HO2.out (by omega), HB.out.trans ((HB2.out.trans (HB3.out.mono hz2)).mono hz)⟩
          case measure => simp [intOf]; omega
        · rw [if_neg hlast] at hput
          rw [hput] at HP
          obtain ⟨A1, hA1, hgt⟩ : ∃ A1 : Int, wrap64 (((L.length : Int) + 1) * ((j : Int) + 10)) = A1 ∧ 4096 < A1 := by
            refine ⟨((k : Int) + 1) * ((j : Int) + 10), ?_, by omega⟩
            rw [HLl.out]
            have : ((k : Int) + 1) * ((j : Int) + 10) = (k : Int) * ((j : Int) + 10) + ((j : Int) + 10) := by rw [Int.add_mul]; omega
            unfold wrap64; omega
          obtain ⟨A2, hA2, hle⟩ : ∃ A2 : Int, wrap64 ((L.length : Int) * ((j : Int) + 10)) = A2 ∧ A2 ≤ 4096 := by
            refine ⟨(k : Int) * ((j : Int) + 10), ?_, by omega⟩
            rw [HLl.out]
            have : 0 ≤ (k : Int) * ((j : Int) + 10) := Int.mul_nonneg (by omega) (by omega)
            unfold wrap64; omega
          have hLk : (L.length : Int) < 400 := by rw [HLl.out]; exact hki
          clear hput hlast hroom
          go_wp2_with (go_at_call 10; refine HP.out.mono ?_; rintro e w2 ⟨v2, rfl, ho2, hb2⟩; have HB3 := Lib.hid hb2; clear ho2 hb2)
          go_ret
          exact ⟨rfl, HB.out.trans ((HB2.out.trans (HB3.out.mono hz2)).mono hz)⟩
end Go.Proofs.YthifejdphflfpaaDoor
