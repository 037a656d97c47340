/- What checkPart and follow of package dir answer. -/
import Derived.Test.YthifejdphflfpaaDoorPlace
import Derived.Lib.SplitLaws
namespace Go.Proofs.YthifejdphflfpaaDoor
open Go.RowKit Go.Sort
def svs (l : List ByteArray) : List Value := l.map Value.string
/-- What is wrong with a part. -/
def chkE (p : ByteArray) : Int := if decide (0 ≤ Lib.indexByte p.data.toList 0) = true then 31 else if 32 < p.size then 32 else 0
theorem checkPart_any (p : ByteArray) (w : World) : Calls Tryd.prog 38 #[.string p] w fun e w' => e = .returned (.int .i64 (chkE p)) ∧ w' = w := by
  have HC := Lib.hid (Tryd.strings_Contains_one p 0 w)
  unfold chkE
  cases hb : decide (0 ≤ Lib.indexByte p.data.toList 0)
  · rw [hb] at HC
    by_cases h : 32 < p.size
    · have h' : (32 : Int) < (p.size : Int) := by omega
      simp only [Bool.false_eq_true, if_false, if_pos h]
      clear hb
      go_enter Tryd.func38, Tryd.ntmps38
      go_wp2_with (go_at_call 53; refine HC.out.mono ?_; rintro e w1 ⟨rfl, hw1⟩; rw [hw1]; clear hw1 w1)
      go_ret
      exact ⟨rfl, rfl⟩
    · have h' : ¬ (32 : Int) < (p.size : Int) := by omega
      simp only [Bool.false_eq_true, if_false, if_neg h]
      clear hb
      go_enter Tryd.func38, Tryd.ntmps38
      go_wp2_with (go_at_call 53; refine HC.out.mono ?_; rintro e w1 ⟨rfl, hw1⟩; rw [hw1]; clear hw1 w1)
      go_ret
      exact ⟨rfl, rfl⟩
  · rw [hb] at HC
    simp only [if_true]
    clear hb
    go_enter Tryd.func38, Tryd.ntmps38
    go_wp2_with (go_at_call 53; refine HC.out.mono ?_; rintro e w1 ⟨rfl, hw1⟩; rw [hw1]; clear hw1 w1)
    go_ret
    exact ⟨rfl, rfl⟩
/-- The names behind one part more. -/
def fol (ns : List ByteArray) (p : ByteArray) : List ByteArray := if p.toList = [] ∨ p.toList = [46] then ns else if p.toList = [46, 46] then ns.take (ns.length - 1) else ns ++ [p]
theorem stInfo : (Tryd.prog.info? 9).map (fun i => (i.zero, i.size, i.bytes)) = some (some (.string ⟨#[]⟩), 1, 16) := by kernel_rfl
theorem row_take {w : World} {base e n : Nat} {v : Value} {xs : List Value} (h : w.ownsRow base e 1 v n xs) (k : Nat) (hk : k ≤ n) : ∃ sp cap, v = .slice sp n cap ∧ w.ownsRow base e 1 (.slice sp k cap) k (xs.take k) ∧ n ≤ cap ∧ cap ≤ maxLen := by
  have hl := h.1
  rcases h.2 with ⟨rfl, h0⟩ | ⟨g, cap, cur, rfl, h1, h2, h3, h4, h5, h6⟩
  · obtain rfl : n = 0 := h0
    obtain rfl : k = 0 := by omega
    exact ⟨none, 0, rfl, by simpa using World.ownsRow_nil _ _ _ _, by omega, by unfold maxLen; omega⟩
  · refine ⟨some ⟨g, 0, none⟩, cap, rfl, ⟨by rw [List.length_take]; omega, .inr ⟨g, cap, cur, rfl, h1, h2, by omega, h4, h5, ?_⟩⟩, h3, h4⟩
    rw [← h6, List.take_take]
    congr 1
    omega
set_option maxRecDepth 100000 in
set_option maxHeartbeats 1000000 in
theorem follow_any (base : Nat) (v : Value) (ns : List ByteArray) (p : ByteArray) (w : World) (hn : ns.length < 1000000) (hB : base ≤ w.heap.size) (ho : w.ownsRow base 9 1 v ns.length (svs ns)) :
    Calls Tryd.prog 39 #[v, .string p] w fun e w' => ∃ v', e = .returned v' ∧ w'.ownsRow base 9 1 v' (fol ns p).length (svs (fol ns p)) ∧ Below base w w' := by
  obtain ⟨i0, hi, hz0, hz1, hz2⟩ := info_parts' stInfo
  have kE : p.toList = [] ↔ p.toList.isEmpty = true := by simp
  have kD : p.toList = [46] ↔ (p.toList == [46]) = true := by simp
  have kU : p.toList = [46, 46] ↔ (p.toList == [46, 46]) = true := by simp
  have hF : Hid (fol ns p = if p.toList.isEmpty = true ∨ (p.toList == [46]) = true then ns else if (p.toList == [46, 46]) = true then ns.take (ns.length - 1) else ns ++ [p]) := by
    show fol ns p = _
    unfold fol; simp only [kE, kD, kU]
  clear kE kD kU
  cases b1 : p.toList.isEmpty
  · cases b2 : (p.toList == [46])
    · cases b3 : (p.toList == [46, 46])
      · have hf : fol ns p = ns ++ [p] := by rw [hF.out, b1, b2, b3]; simp
        rw [hf]
        have hone : Hid (∀ i u, [Value.string p][i]? = some u → (w.alloc (.cells #[.string p] 9)).cell? ((⟨w.heap.size, 0, none⟩ : Addr).add i) = some u) := fun i u hu => by
          match i, hu with
          | 0, hu => simp at hu; subst hu; rw [addr_plus]; simp only [World.cell?, heap_new]; rfl
          | i + 1, hu => simp at hu
        have hoA := ho.alloc (.cells #[.string p] 9)
        have h63 : ns.length + 1 ≤ maxLen := by unfold maxLen; omega
        have hby : (ns.length + 1) * 16 ≤ 140737488355328 := by omega
        have hb2 : base ≤ (w.alloc (.cells #[.string p] 9)).heap.size := by simp; omega
        have HL := Lib.hid ho.lt
        clear ho hf
        go_enter Tryd.func39, Tryd.ntmps39
        go_wp2_with (at_builtin; refine wpList_append_own _ rfl _ _ 44 rfl base 9 i0 (.string ⟨#[]⟩) 1 16 Tryd.underlying44 hi hz0 hz1 hz2 rfl (by decide) _ _ _ rfl hoA ⟨w.heap.size, 0, none⟩ 1 1 [.string p] rfl rfl hone.out (fun x hx => by simp at hx; subst hx; rfl) h63 hby hb2 ?_; intro v' w3 hown' hgrow3 hnil3; have HO := Lib.hid hown'; have HG := Lib.hid hgrow3; clear hown' hgrow3 hnil3)
        go_ret
        refine ⟨_, rfl, ?_, ?_⟩
        · have h := HO.out
          unfold svs at h ⊢
          rw [List.length_append, List.map_append]; exact h
        · exact Below.grown ((Below.refl base w).alloc hB _) HG.out hb2 (fun g hg => (HL.out g hg).1)
      · have hf : fol ns p = ns.take (ns.length - 1) := by rw [hF.out, b1, b2, b3]; simp
        rw [hf]
        obtain ⟨sp, cp, rfl, hr, hc1, hc2⟩ := row_take ho (ns.length - 1) (by omega)
        have HO : Hid (w.ownsRow base 9 1 (.slice sp (ns.length - 1) cp) (ns.take (ns.length - 1)).length (svs (ns.take (ns.length - 1)))) := by
          show w.ownsRow base _ 1 _ _ _
          rw [List.length_take, Nat.min_eq_left (by omega)]
          unfold svs at hr ⊢
          rw [List.map_take]; exact hr
        unfold maxLen at hc2
        clear ho hf hr
        obtain ⟨N, hN⟩ : ∃ N, ns.length = N := ⟨_, rfl⟩
        rw [hN] at HO hc1 hn ⊢
        cases N with
        | zero =>
          clear hN
          cases sp with
          | none =>
            go_enter Tryd.func39, Tryd.ntmps39
            go_wp2
            go_ret
            exact ⟨_, rfl, HO.out, Below.refl _ _⟩
          | some a =>
            go_enter Tryd.func39, Tryd.ntmps39
            go_wp2
            go_ret
            exact ⟨_, rfl, HO.out, Below.refl _ _⟩
        | succ N =>
          clear hN
          have hmx : max (((N + 1 : Nat) : Int) - 1) 0 = (N : Int) := by omega
          have hmx2 : max ((N : Int) + 1 - 1) 0 = (N : Int) := by omega
          have hmx3 : max (N : Int) 0 = (N : Int) := by omega
          have hnc : (N : Int) ≤ (cp : Int) := by omega
          have HO' := HO
          rw [show N + 1 - 1 = N by omega] at HO'
          cases sp with
          | none =>
            go_enter Tryd.func39, Tryd.ntmps39
            go_wp2
            go_ret
            exact ⟨_, rfl, by first | exact HO'.out | exact HO.out, Below.refl _ _⟩
          | some a =>
            go_enter Tryd.func39, Tryd.ntmps39
            go_wp2
            go_ret
            exact ⟨_, rfl, by first | exact HO'.out | exact HO.out, Below.refl _ _⟩
    · have hf : fol ns p = ns := by rw [hF.out, b2]; simp
      rw [hf]
      have HO := Lib.hid ho
      clear ho hf
      go_enter Tryd.func39, Tryd.ntmps39
      go_wp2
      go_ret
      exact ⟨_, rfl, HO.out, Below.refl _ _⟩
  · have hf : fol ns p = ns := by rw [hF.out, b1]; simp
    rw [hf]
    have HO := Lib.hid ho
    clear ho hf
    go_enter Tryd.func39, Tryd.ntmps39
    go_wp2
    go_ret
    exact ⟨_, rfl, HO.out, Below.refl _ _⟩
end Go.Proofs.YthifejdphflfpaaDoor
