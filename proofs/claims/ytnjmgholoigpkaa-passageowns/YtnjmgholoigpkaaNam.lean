/- named, Contains, ContainsFunc, Concat of numbers in package passage. -/
import Derived.Test.YtnjmgholoigpkaaOps
namespace Go.Proofs.Ytnjmgholoigpkaa
open Go.RowKit Go.Sort
def catL (l : ML) : List Int := l.2.map (·.1)
def namL (ls : List ML) : List Int := ls.flatMap catL
theorem namL_snoc (ls : List ML) (k : Nat) (h : k < ls.length) : namL (ls.take (k + 1)) = namL (ls.take k) ++ catL ls[k] := by
  unfold namL; rw [List.take_succ_eq_append_getElem h, List.flatMap_append]; simp
theorem catL_snoc (l : ML) (k : Nat) (h : k < l.2.length) : (l.2.take (k + 1)).map (·.1) = (l.2.take k).map (·.1) ++ [l.2[k].1] := by
  rw [List.take_succ_eq_append_getElem h, List.map_append]; rfl
theorem namL_len (ls : List ML) (h : ∀ l ∈ ls, l.2.length ≤ 16) : (namL ls).length ≤ ls.length * 16 := by
  induction ls with
  | nil => simp [namL]
  | cons l ls ih =>
    have h1 := ih fun x hx => h x (List.mem_cons_of_mem _ hx)
    have h2 := h l (List.mem_cons_self ..)
    unfold namL at h1 ⊢
    rw [List.flatMap_cons, List.length_append]
    simp only [catL, List.length_map, List.length_cons]
    have : (catL l).length = l.2.length := by simp [catL]
    omega
set_option maxRecDepth 100000 in
set_option maxHeartbeats 2000000 in
theorem named_c {ls : List ML} {v : Value} {w : World} (h : LsV ls v w) (hn : ls.length ≤ 16) : Calls Try.prog 47 #[v] w fun e w' => ∃ v', e = .returned v' ∧ Below w.heap.size w w' ∧ IV (namL ls) v' w' := by
  obtain ⟨b, rfl, hb0, hL⟩ := h
  obtain ⟨i0, hi, hz0, hz1, hz2⟩ := info_parts info3
  have h16 : ∀ l ∈ ls, l.2.length ≤ 16 := fun l hl => by
    obtain ⟨j, hj, rfl⟩ := List.getElem_of_mem hl
    obtain ⟨_, _, _, _, _, _, _, h⟩ := hL j hj
    exact h
  have hlen : ∀ k, (namL (ls.take k)).length ≤ 256 := fun k => by
    have := namL_len (ls.take k) fun l hl => h16 l (List.mem_of_mem_take hl)
    have h2 : (ls.take k).length ≤ ls.length := by rw [List.length_take]; omega
    omega
  have hl16 : (ls.length : Int) ≤ 16 := by omega
  go_enter Try.func47, Try.ntmps47
  go_wp2_with fail
  go_loopw [3, 10] (fun r i wr => ∃ k : Nat, k ≤ ls.length ∧ i = .int .i64 k ∧ wr.ownsRow w.heap.size 3 1 r (namL (ls.take k)).length (icells (namL (ls.take k))) ∧ Below w.heap.size w wr) (fun _ i _ => ls.length - (intOf i).toNat)
  case atStart => exact ⟨0, Nat.zero_le _, rfl, World.ownsRow_nil _ _ _ _, Below.refl _ _⟩
  case round =>
    obtain ⟨k, hk, rfl, hown, hb⟩ := hrel
    obtain ⟨W1, rfl⟩ : ∃ W1, W1 = wr := ⟨wr, rfl⟩
    by_cases hlt : k < ls.length
    · obtain ⟨p, cap, _, e0w, e1w, hcat, hcap, hx16⟩ := hL k hlt
      have e0 := (hb.cell (p := ⟨b, k * 2, none⟩) hb0).trans e0w
      have e1 := (hb.cell (p := ⟨b, k * 2 + 1, none⟩) hb0).trans e1w
      have HS := Lib.hid (namL_snoc ls k hlt)
      have hbw : b < W1.heap.size := Nat.lt_of_lt_of_le hb0 hb.size
      have hlk := hlen k
      have hbA : Below w.heap.size w (W1.alloc (.cells #[.int .i64 ls[k].1, .slice p ls[k].2.length cap] 24)) := hb.alloc hb.size _
      have hki : (k : Int) < (ls.length : Int) := by omega
      obtain ⟨T, hT⟩ : ∃ T, namL (ls.take k) = T := ⟨_, rfl⟩
      rw [hT] at hown hlk
      have HT := Lib.hid hT
      clear hL h16 hlen hT e0w e1w
      go_wp2_with fail
      go_loopw [3, 17] (fun r i wr => ∃ j : Nat, j ≤ ls[k].2.length ∧ i = .int .i64 j ∧ wr.ownsRow w.heap.size 3 1 r (T ++ (ls[k].2.take j).map (·.1)).length (icells (T ++ (ls[k].2.take j).map (·.1))) ∧ Below w.heap.size w wr) (fun _ i _ => ls[k].2.length - (intOf i).toNat)
      case atStart => exact ⟨0, Nat.zero_le _, rfl, by simpa using hown.alloc _, hbA⟩
      case round =>
        obtain ⟨j, hj, rfl, hown2, hb2⟩ := hrel
        by_cases hlt2 : j < ls[k].2.length
        · obtain ⟨bx, ox, hpx, hblx, x0, x1⟩ := hcat.get hb2 (Below.refl _ _) (Nat.le_refl _) j hlt2
          have HJ := Lib.hid (catL_snoc ls[k] j hlt2)
          have hl2 : (T ++ (ls[k].2.take j).map (·.1)).length ≤ 300 := by simp; omega
          obtain ⟨cs, hcs⟩ : ∃ cs, T ++ (ls[k].2.take j).map (·.1) = cs := ⟨_, rfl⟩
          rw [hcs] at hown2 hl2
          have HCS := Lib.hid hcs
          clear hcs
          rw [hpx]
          have hbxw : bx < wr.heap.size := Nat.lt_of_lt_of_le hblx hb2.size
          have hji : (j : Int) < (ls[k].2.length : Int) := by omega
          have hA2 : Below w.heap.size w (wr.alloc (.cells #[.int .i64 ls[k].2[j].1, .int .i64 ls[k].2[j].2] 50)) := hb2.alloc hb2.size _
          have hA3 := hA2.alloc (hA2.size) (.cells #[.int .i64 ls[k].2[j].1] 3)
          have hownA := (hown2.alloc (.cells #[.int .i64 ls[k].2[j].1, .int .i64 ls[k].2[j].2] 50)).alloc (.cells #[.int .i64 ls[k].2[j].1] 3)
          have HO := Lib.hid (cell_one_new' (wr.alloc (.cells #[.int .i64 ls[k].2[j].1, .int .i64 ls[k].2[j].2] 50)) (.int .i64 ls[k].2[j].1) 3)
          have h63 : cs.length + 1 ≤ maxLen := by unfold maxLen; omega
          have hby : (cs.length + 1) * 8 ≤ 140737488355328 := by omega
          have hsz : w.heap.size ≤ ((wr.alloc (.cells #[.int .i64 ls[k].2[j].1, .int .i64 ls[k].2[j].2] 50)).alloc (.cells #[.int .i64 ls[k].2[j].1] 3)).heap.size := hA3.size
          have HLT := Lib.hid hownA.lt
          clear hcat
          go_wp2_with (at_builtin; refine wpList_append_own _ rfl _ _ 43 rfl w.heap.size 3 i0 (.int .i64 0) 1 8 Try.underlying43 hi hz0 hz1 hz2 rfl (by decide) _ _ _ rfl hownA ⟨wr.heap.size + 1, 0, none⟩ 1 1 [.int .i64 ls[k].2[j].1] rfl rfl (by have := HO.out; simpa using this) (fun x hx => by simp at hx; subst hx; rfl) h63 hby hsz ?_; intro v5 w5 hown5 hgrow5 hnil5)
          go_roundw
          case rel =>
            refine ⟨j + 1, by omega, by go_num, ?_, Below.grown hA3 hgrow5 hsz (fun g hg => (HLT.out g hg).1)⟩
            have h := hown5
            rw [HJ.out, ← List.append_assoc, HCS.out]
            rw [show [Value.int .i64 ls[k].2[j].1] = icells [ls[k].2[j].1] from rfl, ← icells_append] at h
            simpa using h
          case measure => simp [intOf]; omega
        · obtain rfl : j = ls[k].2.length := by omega
          rw [List.take_length] at hown2
          have hjj : ¬ (ls[k].2.length : Int) < (ls[k].2.length : Int) := by omega
          go_wp2
          refine ⟨⟨k + 1, by omega, by go_num, ?_, hb2⟩, ?_⟩
          · rw [HS.out, HT.out]; exact hown2
          · simp [intOf]; omega
    · obtain rfl : k = ls.length := by omega
      rw [List.take_length] at hown
      have hkk : ¬ (ls.length : Int) < (ls.length : Int) := by omega
      go_wp2
      go_ret
      exact ⟨_, rfl, hb, _, hown⟩
end Go.Proofs.Ytnjmgholoigpkaa
