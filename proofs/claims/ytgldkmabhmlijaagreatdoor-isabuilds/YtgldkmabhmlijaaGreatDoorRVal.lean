/- What Value, register and Named of the reference answer. -/
import Derived.Test.YtgldkmabhmlijaaGreatDoorRPar
import Derived.Test.YtgldkmabhmlijaaGreatDoorDigits
namespace Go.Proofs.YtgldkmabhmlijaaGreatDoor
open Go.RowKit Go.Sort
theorem dnN_lt : ∀ (l : List UInt8), l.all isDg = true → dnN 0 l + 1 ≤ 10 ^ l.length := by
  intro l
  have key : ∀ m (l : List UInt8), l.length = m → l.all isDg = true → dnN 0 l + 1 ≤ 10 ^ m := by
    intro m
    induction m with
    | zero => intro l hl _; rw [List.eq_nil_of_length_eq_zero hl]; simp [dnN]
    | succ m ih =>
      intro l hl ha
      obtain ⟨B, d, e⟩ : ∃ B d, l = B ++ [d] := ⟨_, _, (List.dropLast_concat_getLast (by rintro rfl; simp at hl)).symm⟩
      subst e
      rw [List.all_append, Bool.and_eq_true] at ha
      have := ih B (by simpa using hl) ha.1
      have hd : isDg d = true := by simpa using ha.2
      unfold isDg at hd
      simp at hd
      rw [dnN_snoc, Nat.pow_succ]; omega
  exact key _ l rfl
/- GEN -/

theorem val_len {l : List UInt8} (h : (dgs l).length = 0 ∨ 6 < (dgs l).length) : valL l = none := by
  unfold valL; rw [if_pos (by rcases h with h | h; · exact .inl h
                              · exact .inr (.inl h))]
theorem val_bad {l : List UInt8} (h : (dgs l).all isDg = false) : valL l = none := by
  unfold valL; rw [if_pos (.inr (.inr h))]
theorem val_ok {l : List UInt8} (h0 : (dgs l).length ≠ 0) (h1 : (dgs l).length ≤ 6) (h : (dgs l).all isDg = true) : valL l = some (if l.head? = some 45 then -(dnN 0 (dgs l) : Int) else dnN 0 (dgs l)) := by
  unfold valL; rw [if_neg (by rintro (e | e | e); · exact h0 e
                              · omega
                              · rw [h] at e; cases e)]
theorem u8sub (b : Nat) (h : 48 ≤ b) (h2 : b ≤ 57) : IntKind.u8.wrap ((b : Int) - 48) = ((b - 48 : Nat) : Int) := by
  rw [IntKind.wrap_u8]; omega

set_option maxRecDepth 100000 in
set_option maxHeartbeats 2000000 in
theorem Value_p (s q : ByteArray) (w : World) (hs : s.size < 1000000) (hD : dgs s.data.toList = q.data.toList) (hq : q = s) (h45 : 1 ≤ s.size → byS s 0 ≠ 45) : Calls Tryz.prog 22 #[.string s] w fun e w' => e = .returned (.tuple #[.int .i64 ((valL s.data.toList).getD 0), .bool (valL s.data.toList).isSome]) ∧ Below w.heap.size w w' := by
  have hl : q.data.toList.length = q.size := by simp
  have HD := Lib.hid hD
  clear hD
  subst hq
  have HH : Hid (¬ q.data.toList.head? = some 45) := fun e => by
    rw [List.head?_eq_getElem?] at e
    obtain ⟨h0, e1⟩ := List.getElem?_eq_some_iff.1 e
    rw [hl] at h0
    have h0' : q[0].toNat = byS q 0 := byS_get q 0 (by omega)
    have : q.data.toList[0]'(by omega) = q[0] := by simp [ByteArray.getElem_eq_getElem_data]
    rw [this] at e1
    exact h45 h0 (by rw [← h0', e1]; rfl)
  by_cases hlen : q.size = 0 ∨ 6 < q.size
  · have HV : Hid (valL q.data.toList = none) := val_len (by rw [HD.out, hl]; exact hlen)
    by_cases hlen0 : q.size = 0
    · have hli : ¬ (0 : Int) < (q.size : Int) := by omega
      have hz' : ((q.size : Int) == 0) = true := by rw [hlen0]; rfl
      go_enter Tryz.func22, Tryz.ntmps22
      go_wp2
      go_ret2
      exact ⟨by rw [HV.out]; rfl, Below.refl _ _⟩
    · have hli : (0 : Int) < (q.size : Int) := by omega
      have hb0 : q[0].toNat = byS q 0 := byS_get q 0 (by omega)
      have hbe : ((byS q 0 : Int) == 45) = false := by have := h45 (by omega); simp; omega
      have hz' : ((q.size : Int) == 0) = false := by simp only [beq_eq_false_iff_ne]; omega
      have hz6 : (6 : Int) < (q.size : Int) := by omega
      go_enter Tryz.func22, Tryz.ntmps22
      go_wp2
      go_ret2
      exact ⟨by rw [HV.out]; rfl, Below.refl _ _⟩
  · have hlen1 : 1 ≤ q.size := by omega
    have hlen2 : q.size ≤ 6 := by omega
    have hz' : ((q.size : Int) == 0) = false := by simp only [beq_eq_false_iff_ne]; omega
    have hz6 : ¬ (6 : Int) < (q.size : Int) := by omega
    have hli : (0 : Int) < (q.size : Int) := by omega
    have hb0 : q[0].toNat = byS q 0 := byS_get q 0 (by omega)
    have hbe : ((byS q 0 : Int) == 45) = false := by have := h45 (by omega); simp; omega
    clear h45
    clear hlen
    go_enter Tryz.func22, Tryz.ntmps22
    go_wp2_with fail
    go_loopw [5, 6] (fun nv iv wr => ∃ k m : Nat, k ≤ q.size ∧ iv = .int .i64 k ∧ nv = .int .i64 (dnN 0 (q.data.toList.take k) : Nat) ∧ (q.data.toList.take k).all isDg = true ∧ wr = w.drewN m) (fun _ iv _ => q.size - (intOf iv).toNat)
    case atStart => exact ⟨0, 0, by omega, rfl, rfl, rfl, rfl⟩
    case round =>
      obtain ⟨k, m, hk, rfl, rfl, hall, rfl⟩ := hrel
      have HA := Lib.hid hall
      clear hall
      have hN := dnN_lt _ HA.out
      rw [List.length_take, hl, show min k q.size = k from by omega] at hN
      have hp : (10 : Nat) ^ k ≤ 10 ^ 6 := Nat.pow_le_pow_right (by decide) (by omega)
      obtain ⟨N, hNN⟩ : ∃ N, N = dnN 0 (q.data.toList.take k) := ⟨_, rfl⟩
      rw [← hNN] at hN ⊢
      have hN6 : N < 1000000 := by have : (10 : Nat) ^ 6 = 1000000 := by decide
                                   omega
      have HNN := Lib.hid hNN
      clear hNN hN hp
      by_cases hlt : k < q.size
      · have hki : (k : Int) < (q.size : Int) := by omega
        have hb : q[k].toNat = byS q k := byS_get q k hlt
        have hb256 := byS_lt q k
        have htk : q.data.toList.take (k + 1) = q.data.toList.take k ++ [q[k]] := by
          rw [List.take_succ_eq_append_getElem (by omega)]; simp [ByteArray.getElem_eq_getElem_data]
        have hdg : isDg q[k] = (decide (48 ≤ byS q k) && decide (byS q k ≤ 57)) := by unfold isDg; rw [hb]
        have HT := Lib.hid htk
        have HG := Lib.hid hdg
        have hmem : q[k] ∈ q.data.toList := by
          have : q.data.toList[k]'(by omega) = q[k] := by simp [ByteArray.getElem_eq_getElem_data]
          rw [← this]; exact List.getElem_mem _
        have HM := Lib.hid hmem
        clear htk hdg hmem
        have HNx : Hid (dnN 0 (q.data.toList.take (k + 1)) = 10 * N + (byS q k - 48)) := by simp only [Hid]; rw [HT.out, dnN_snoc, ← HNN.out, hb]
        obtain ⟨b, hbb⟩ : ∃ b, b = byS q k := ⟨_, rfl⟩
        rw [← hbb] at hb hb256 HG HNx
        clear hbb
        by_cases hlo : 48 ≤ b
        · have hloi : ¬ (b : Int) < 48 := by omega
          by_cases hhi : b ≤ 57
          · have hhii : ¬ (57 : Int) < (b : Int) := by omega
            have hsub := u8sub b hlo hhi
            have HA2 : Hid ((q.data.toList.take (k + 1)).all isDg = true) := by
              simp only [Hid]; rw [HT.out, List.all_append, HA.out]; simp [HG.out, hlo, hhi]
            go_wp2
            go_roundw
            case rel => exact ⟨k + 1, m, by omega, by go_num, by rw [HNx.out]; go_num, HA2.out, rfl⟩
            case measure => simp [intOf]; omega
          · have hhii : (57 : Int) < (b : Int) := by omega
            have HV : Hid (valL q.data.toList = none) := val_bad (by
              rw [HD.out, List.all_eq_false]; exact ⟨_, HM.out, by rw [HG.out]; simp; omega⟩)
            go_wp2
            go_ret2
            exact ⟨by rw [HV.out]; rfl, bdn (Below.refl _ _) _⟩
        · have hloi : (b : Int) < 48 := by omega
          have HV : Hid (valL q.data.toList = none) := val_bad (by
            rw [HD.out, List.all_eq_false]; exact ⟨_, HM.out, by rw [HG.out]; simp; omega⟩)
          go_wp2
          go_ret2
          exact ⟨by rw [HV.out]; rfl, bdn (Below.refl _ _) _⟩
      · obtain rfl : k = q.size := by omega
        have hki : ¬ (q.size : Int) < (q.size : Int) := by omega
        have hfull : q.data.toList.take q.size = q.data.toList := by rw [← hl]; exact List.take_length
        have HV : Hid (valL q.data.toList = some ((N : Int))) := by
          simp only [Hid]
          rw [val_ok (by rw [HD.out, hl]; omega) (by rw [HD.out, hl]; omega) (by rw [HD.out, ← hfull]; exact HA.out), if_neg HH.out, HNN.out, hfull, HD.out]
        go_wp2
        go_ret2
        exact ⟨by rw [HV.out]; rfl, bdn (Below.refl _ _) _⟩

set_option maxRecDepth 100000 in
set_option maxHeartbeats 2000000 in
theorem Value_n (s q : ByteArray) (w : World) (hs : s.size < 1000000) (hD : dgs s.data.toList = q.data.toList) (hne : 1 ≤ s.size) (h45 : byS s 0 = 45) (hq : s.extract 1 s.size = q) : Calls Tryz.prog 22 #[.string s] w fun e w' => e = .returned (.tuple #[.int .i64 ((valL s.data.toList).getD 0), .bool (valL s.data.toList).isSome]) ∧ Below w.heap.size w w' := by
  have hl : q.data.toList.length = q.size := by simp
  have HD := Lib.hid hD
  clear hD
  have HH : Hid (s.data.toList.head? = some 45) := by
    have hl' : s.data.toList.length = s.size := by simp
    have h0 : s[0].toNat = byS s 0 := byS_get s 0 (by omega)
    rw [h45] at h0
    have : s.data.toList[0]'(by omega) = s[0] := by simp [ByteArray.getElem_eq_getElem_data]
    rw [List.head?_eq_getElem?, List.getElem?_eq_getElem (by omega), this, show s[0] = 45 from UInt8.toNat_inj.1 (by simpa using h0)]; exact rfl
  have hqz : q.size + 1 = s.size := by rw [← hq, ByteArray.size_extract]; omega
  have hli : (0 : Int) < (s.size : Int) := by omega
  have h1i : (1 : Int) ≤ (s.size : Int) := by omega
  have hbe : ((byS s 0 : Int) == 45) = true := by rw [h45]; rfl
  have hb0 : s[0].toNat = byS s 0 := byS_get s 0 (by omega)
  rw [h45] at hb0
  clear h45 hbe
  by_cases hlen : q.size = 0 ∨ 6 < q.size
  · have HV : Hid (valL s.data.toList = none) := val_len (by rw [HD.out, hl]; exact hlen)
    rcases hlen with hlen | hlen
    · have hz : (q.size : Int) = 0 := by omega
      have hz' : ((q.size : Int) == 0) = true := by rw [hlen]; rfl
      go_enter Tryz.func22, Tryz.ntmps22
      go_wp2
      go_ret2
      exact ⟨by rw [HV.out]; rfl, Below.refl _ _⟩
    · have hz' : ((q.size : Int) == 0) = false := by simp only [beq_eq_false_iff_ne]; omega
      have hz6 : (6 : Int) < (q.size : Int) := by omega
      go_enter Tryz.func22, Tryz.ntmps22
      go_wp2
      go_ret2
      exact ⟨by rw [HV.out]; rfl, Below.refl _ _⟩
  · have hlen1 : 1 ≤ q.size := by omega
    have hlen2 : q.size ≤ 6 := by omega
    have hz' : ((q.size : Int) == 0) = false := by simp only [beq_eq_false_iff_ne]; omega
    have hz6 : ¬ (6 : Int) < (q.size : Int) := by omega
    clear hlen
    go_enter Tryz.func22, Tryz.ntmps22
    go_wp2_with fail
    go_loopw [5, 6] (fun nv iv wr => ∃ k m : Nat, k ≤ q.size ∧ iv = .int .i64 k ∧ nv = .int .i64 (dnN 0 (q.data.toList.take k) : Nat) ∧ (q.data.toList.take k).all isDg = true ∧ wr = w.drewN m) (fun _ iv _ => q.size - (intOf iv).toNat)
    case atStart => exact ⟨0, 0, by omega, rfl, rfl, rfl, rfl⟩
    case round =>
      obtain ⟨k, m, hk, rfl, rfl, hall, rfl⟩ := hrel
      have HA := Lib.hid hall
      clear hall
      have hN := dnN_lt _ HA.out
      rw [List.length_take, hl, show min k q.size = k from by omega] at hN
      have hp : (10 : Nat) ^ k ≤ 10 ^ 6 := Nat.pow_le_pow_right (by decide) (by omega)
      obtain ⟨N, hNN⟩ : ∃ N, N = dnN 0 (q.data.toList.take k) := ⟨_, rfl⟩
      rw [← hNN] at hN ⊢
      have hN6 : N < 1000000 := by have : (10 : Nat) ^ 6 = 1000000 := by decide
                                   omega
      have HNN := Lib.hid hNN
      clear hNN hN hp
      by_cases hlt : k < q.size
      · have hki : (k : Int) < (q.size : Int) := by omega
        have hb : q[k].toNat = byS q k := byS_get q k hlt
        have hb256 := byS_lt q k
        have htk : q.data.toList.take (k + 1) = q.data.toList.take k ++ [q[k]] := by
          rw [List.take_succ_eq_append_getElem (by omega)]; simp [ByteArray.getElem_eq_getElem_data]
        have hdg : isDg q[k] = (decide (48 ≤ byS q k) && decide (byS q k ≤ 57)) := by unfold isDg; rw [hb]
        have HT := Lib.hid htk
        have HG := Lib.hid hdg
        have hmem : q[k] ∈ q.data.toList := by
          have : q.data.toList[k]'(by omega) = q[k] := by simp [ByteArray.getElem_eq_getElem_data]
          rw [← this]; exact List.getElem_mem _
        have HM := Lib.hid hmem
        clear htk hdg hmem
        have HNx : Hid (dnN 0 (q.data.toList.take (k + 1)) = 10 * N + (byS q k - 48)) := by simp only [Hid]; rw [HT.out, dnN_snoc, ← HNN.out, hb]
        obtain ⟨b, hbb⟩ : ∃ b, b = byS q k := ⟨_, rfl⟩
        rw [← hbb] at hb hb256 HG HNx
        clear hbb
        by_cases hlo : 48 ≤ b
        · have hloi : ¬ (b : Int) < 48 := by omega
          by_cases hhi : b ≤ 57
          · have hhii : ¬ (57 : Int) < (b : Int) := by omega
            have hsub := u8sub b hlo hhi
            have HA2 : Hid ((q.data.toList.take (k + 1)).all isDg = true) := by
              simp only [Hid]; rw [HT.out, List.all_append, HA.out]; simp [HG.out, hlo, hhi]
            go_wp2
            go_roundw
            case rel => exact ⟨k + 1, m, by omega, by go_num, by rw [HNx.out]; go_num, HA2.out, rfl⟩
            case measure => simp [intOf]; omega
          · have hhii : (57 : Int) < (b : Int) := by omega
            have HV : Hid (valL s.data.toList = none) := val_bad (by
              rw [HD.out, List.all_eq_false]; exact ⟨_, HM.out, by rw [HG.out]; simp; omega⟩)
            go_wp2
            go_ret2
            exact ⟨by rw [HV.out]; rfl, bdn (Below.refl _ _) _⟩
        · have hloi : (b : Int) < 48 := by omega
          have HV : Hid (valL s.data.toList = none) := val_bad (by
            rw [HD.out, List.all_eq_false]; exact ⟨_, HM.out, by rw [HG.out]; simp; omega⟩)
          go_wp2
          go_ret2
          exact ⟨by rw [HV.out]; rfl, bdn (Below.refl _ _) _⟩
      · obtain rfl : k = q.size := by omega
        have hki : ¬ (q.size : Int) < (q.size : Int) := by omega
        have hfull : q.data.toList.take q.size = q.data.toList := by rw [← hl]; exact List.take_length
        have HV : Hid (valL s.data.toList = some (-(N : Int))) := by
          simp only [Hid]
          rw [val_ok (by rw [HD.out, hl]; omega) (by rw [HD.out, hl]; omega) (by rw [HD.out, ← hfull]; exact HA.out), if_pos HH.out, HNN.out, hfull, HD.out]
        go_wp2
        go_ret2
        exact ⟨by rw [HV.out]; rfl, bdn (Below.refl _ _) _⟩

theorem Value_any (s : ByteArray) (w : World) (hs : s.size < 1000000) : Calls Tryz.prog 22 #[.string s] w fun e w' => e = .returned (.tuple #[.int .i64 ((valL s.data.toList).getD 0), .bool (valL s.data.toList).isSome]) ∧ Below w.heap.size w w' := by
  have hl : s.data.toList.length = s.size := by simp
  have hget : ∀ h : 0 < s.size, s.data.toList[0]'(by omega) = s[0] := fun h => by simp [ByteArray.getElem_eq_getElem_data]
  by_cases h : 1 ≤ s.size ∧ byS s 0 = 45
  · refine Value_n s (s.extract 1 s.size) w hs ?_ h.1 h.2 rfl
    have h0 : s[0].toNat = byS s 0 := byS_get s 0 (by omega)
    rw [h.2] at h0
    have h45 : s[0] = 45 := UInt8.toNat_inj.1 (by simpa using h0)
    unfold dgs
    rw [if_pos (by rw [List.head?_eq_getElem?, List.getElem?_eq_getElem (by omega), hget (by omega), h45]), ByteArray.data_extract, Array.toList_extract]
    simp only [List.extract_eq_take_drop]
    rw [List.take_of_length_le (by rw [List.length_drop]; omega), List.drop_one]
  · refine Value_p s s w hs ?_ rfl (fun h1 e => h ⟨h1, e⟩)
    unfold dgs
    rw [if_neg]
    intro e
    rw [List.head?_eq_getElem?] at e
    obtain ⟨h0, e1⟩ := List.getElem?_eq_some_iff.1 e
    rw [hget (by omega)] at e1
    have h0' : s[0].toNat = byS s 0 := byS_get s 0 (by omega)
    exact h ⟨by omega, by rw [← h0', e1]; rfl⟩
end Go.Proofs.YtgldkmabhmlijaaGreatDoor
