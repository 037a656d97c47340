/- What the reference's Named, Good, Size and Right answer. -/
import Derived.Test.YthifejdphflfpaaDoorOrdB
import Derived.BigQuiet
namespace Go.Proofs.YthifejdphflfpaaDoor
open Go.RowKit Go.Sort
theorem Cat_any (n : Int) (w : World) : Calls Tryd.prog 48 #[.int .i64 n] w fun e w' => e = .returned (.bool (decide (1 ≤ n ∧ n ≤ 2305843009213693951))) ∧ w' = w := by
  by_cases h1 : 1 ≤ n
  · by_cases h2 : n ≤ 2305843009213693951
    · rw [decide_eq_true (show 1 ≤ n ∧ n ≤ 2305843009213693951 from ⟨h1, h2⟩)]
      go_enter Tryd.func48, Tryd.ntmps48
      go_wp2
      go_ret
      exact ⟨rfl, rfl⟩
    · rw [decide_eq_false (show ¬ (1 ≤ n ∧ n ≤ 2305843009213693951) from fun h => h2 h.2)]
      go_enter Tryd.func48, Tryd.ntmps48
      go_wp2
      go_ret
      exact ⟨rfl, rfl⟩
  · rw [decide_eq_false (show ¬ (1 ≤ n ∧ n ≤ 2305843009213693951) from fun h => h1 h.1)]
    go_enter Tryd.func48, Tryd.ntmps48
    go_wp2
    go_ret
    exact ⟨rfl, rfl⟩
set_option maxRecDepth 100000 in
set_option maxHeartbeats 2000000 in
theorem Named_any (s : ByteArray) (w : World) : Calls Tryd.prog 47 #[.string s] w fun e w' => e = .returned (.bool (nameB s)) ∧ w' = w := by
  by_cases h1 : s.size < 1
  · have h1' : (s.size : Int) < 1 := by omega
    have hn : nameB s = false := by unfold nameB; rw [decide_eq_false (by omega)]; rfl
    rw [hn]
    go_enter Tryd.func47, Tryd.ntmps47
    go_wp2
    go_ret
    exact ⟨rfl, rfl⟩
  · have h1' : ¬ (s.size : Int) < 1 := by omega
    by_cases h2 : 32 < s.size
    · have h2' : (32 : Int) < (s.size : Int) := by omega
      have hn : nameB s = false := by unfold nameB; rw [decide_eq_false (by omega)]; rfl
      rw [hn]
      go_enter Tryd.func47, Tryd.ntmps47
      go_wp2
      go_ret
      exact ⟨rfl, rfl⟩
    · have h2' : ¬ (32 : Int) < (s.size : Int) := by omega
      have hd : decide (1 ≤ s.size ∧ s.size ≤ 32) = true := decide_eq_true (by omega)
      cases h3 : (s.toList == [46])
      · cases h4 : (s.toList == [46, 46])
        · have hn : nameB s = !barred s.data.toList := by unfold nameB; rw [hd, ← tl, h3, h4]; simp
          have HN := Lib.hid hn
          clear hn hd
          go_enter Tryd.func47, Tryd.ntmps47
          go_wp2_with fail
          go_loopw [3] (fun i wr => ∃ k : Nat, k ≤ s.size ∧ i = .int .i64 k ∧ NoBar s k ∧ wr = w) (fun i _ => s.size - (intOf i).toNat)
          case atStart => exact ⟨0, Nat.zero_le _, rfl, fun j _ h => by omega, rfl⟩
          case round =>
            obtain ⟨k, hk, rfl, hb, rfl⟩ := hrel
            by_cases hlt : k < s.size
            · have hki : (k : Int) < (s.size : Int) := by omega
              have HNB := Lib.hid hb
              clear hb
              by_cases e0 : s[k] = 0
              · have f0 : ((s[k].toNat : Int) == 0) = true := by rw [e0]; rfl
                have HY := Lib.hid (barred_yes hlt (.inl e0))
                clear e0
                go_wp2
                go_ret
                exact ⟨ret_bool (by rw [HN.out, HY.out]; rfl), rfl⟩
              · by_cases e1 : s[k] = 47
                · have f0 : ((s[k].toNat : Int) == 0) = false := by rw [e1]; rfl
                  have f1 : ((s[k].toNat : Int) == 47) = true := by rw [e1]; rfl
                  have HY := Lib.hid (barred_yes hlt (.inr e1))
                  clear e0 e1
                  go_wp2
                  go_ret
                  exact ⟨ret_bool (by rw [HN.out, HY.out]; rfl), rfl⟩
                · have f0 : ((s[k].toNat : Int) == 0) = false := by
                    rw [beq_eq_false_iff_ne]; intro e; exact e0 (UInt8.toNat_inj.1 (by show _ = 0; omega))
                  have f1 : ((s[k].toNat : Int) == 47) = false := by
                    rw [beq_eq_false_iff_ne]; intro e; exact e1 (UInt8.toNat_inj.1 (by show _ = 47; omega))
                  have HE := Lib.hid (And.intro e0 e1)
                  clear e0 e1
                  go_wp2
                  go_roundw
                  case rel =>
                    refine ⟨k + 1, by omega, by go_num, fun j hj hjk => ?_, trivial⟩
                    by_cases hh : j = k
                    · subst hh; exact HE.out
                    · exact HNB.out j hj (by omega)
                  case measure => simp [intOf]; omega
            · obtain rfl : k = s.size := by omega
              have hkk : ¬ (s.size : Int) < (s.size : Int) := by omega
              have HY := Lib.hid (barred_no hb)
              clear hb
              go_wp2
              go_ret
              exact ⟨ret_bool (by rw [HN.out, HY.out]; rfl), rfl⟩
        · have hn : nameB s = false := by unfold nameB; rw [← tl, h3, h4]; simp
          rw [hn]
          go_enter Tryd.func47, Tryd.ntmps47
          go_wp2
          go_ret
          exact ⟨rfl, rfl⟩
      · have hn : nameB s = false := by unfold nameB; rw [← tl, h3]; simp
        rw [hn]
        go_enter Tryd.func47, Tryd.ntmps47
        go_wp2
        go_ret
        exact ⟨rfl, rfl⟩
set_option maxHeartbeats 1000000 in
theorem Good_any (m : Nm) (w : World) : Calls Tryd.prog 32 #[nmV m] w fun e w' => e = .returned (.bool (goodN m)) ∧ Below w.heap.size w w' := by
  unfold nmV
  have HN := Lib.hid (fun w => Named_any m.nm w)
  have HC := Lib.hid (fun w => Cat_any m.id w)
  have hg : goodN m = (nameB m.nm && (m.kd == 1 || m.kd == 2) && decide (1 ≤ m.id ∧ m.id ≤ 2305843009213693951)) := rfl
  have hbX : Below w.heap.size w (w.alloc (.cells #[.string m.nm, .int .i64 m.kd, .int .i64 m.id] 25)) := (Below.refl _ _).alloc (Nat.le_refl _) _
  rw [hg]
  clear hg
  cases hB : nameB m.nm
  · rw [hB] at HN
    go_enter Tryd.func32, Tryd.ntmps32
    go_wp2_with (go_at_call 47; refine (HN.out _).mono ?_; rintro e w1 ⟨rfl, hw1⟩; rw [hw1]; clear hw1 w1)
    go_ret
    exact ⟨rfl, hbX⟩
  · rw [hB] at HN
    clear hB
    cases h1 : (m.kd == 1)
    · cases h2 : (m.kd == 2)
      · go_enter Tryd.func32, Tryd.ntmps32
        go_wp2_with (go_at_call 47; refine (HN.out _).mono ?_; rintro e w1 ⟨rfl, hw1⟩; rw [hw1]; clear hw1 w1)
        go_ret
        exact ⟨rfl, hbX⟩
      · go_enter Tryd.func32, Tryd.ntmps32
        go_wp2_with (first
          | (go_at_call 47; refine (HN.out _).mono ?_; rintro e w1 ⟨rfl, hw1⟩; rw [hw1]; clear hw1 w1)
          | (go_at_call 48; refine (HC.out _).mono ?_; rintro e w1 ⟨rfl, hw1⟩; rw [hw1]; clear hw1 w1))
        go_ret
        exact ⟨ret_bool (by simp), hbX⟩
    · go_enter Tryd.func32, Tryd.ntmps32
      go_wp2_with (first
        | (go_at_call 47; refine (HN.out _).mono ?_; rintro e w1 ⟨rfl, hw1⟩; rw [hw1]; clear hw1 w1)
        | (go_at_call 48; refine (HC.out _).mono ?_; rintro e w1 ⟨rfl, hw1⟩; rw [hw1]; clear hw1 w1))
      go_ret
      exact ⟨ret_bool (by simp), hbX⟩
theorem sizeL_succ (l : List Nm) (k : Nat) (h : k < l.length) : sizeL (l.take (k + 1)) = sizeL (l.take k) + (l[k].nm.size + 10) := by
  rw [List.take_succ_eq_append_getElem h, sizeL_append]; simp [sizeL]
theorem sizeL_le (l : List Nm) (h : ∀ m ∈ l, m.nm.size ≤ 32) : sizeL l ≤ (l.length : Int) * 42 := by
  unfold sizeL
  induction l with
  | nil => simp
  | cons m l ih =>
    have := ih (fun x hx => h x (List.mem_cons_of_mem _ hx))
    have := h m (List.mem_cons_self ..)
    simp only [List.map_cons, List.sum_cons, List.length_cons]; omega
set_option maxRecDepth 100000 in
set_option maxHeartbeats 2000000 in
theorem Size_any (p : Option Addr) (cap : Nat) (l : List Nm) (w : World) (hm : l.length ≤ 4398046511104) (hs : ∀ m ∈ l, m.nm.size ≤ 32) (hc : NsAt w p l) :
    Calls Tryd.prog 33 #[.slice p l.length cap] w fun e w' => e = .returned (.int .i64 (sizeL l)) ∧ Below w.heap.size w w' := by
  go_enter Tryd.func33, Tryd.ntmps33
  go_wp2_with fail
  go_loopw [3, 8] (fun n i wr => ∃ k : Nat, k ≤ l.length ∧ i = .int .i64 k ∧ n = .int .i64 (sizeL (l.take k)) ∧ Below w.heap.size w wr) (fun _ i _ => l.length - (intOf i).toNat)
  case atStart => exact ⟨0, Nat.zero_le _, rfl, rfl, Below.refl _ _⟩
  case round =>
    obtain ⟨k, hk, rfl, rfl, hb⟩ := hrel
    have hz := hb.size
    by_cases hlt : k < l.length
    · have hki : (k : Int) < (l.length : Int) := by omega
      obtain ⟨b, off, rfl, hbl, hq⟩ := hc k hlt
      obtain ⟨c0, c1, c2⟩ := hq.below hb hbl
      have hbw : b < wr.heap.size := by omega
      have hsz := hs _ (List.getElem_mem hlt)
      have h1 := sizeL_nonneg (l.take k)
      have h2 := sizeL_le (l.take k) (fun m hm => hs m (List.mem_of_mem_take hm))
      have h3 : (l.take k).length = k := by rw [List.length_take]; omega
      have HS := Lib.hid (sizeL_succ l k hlt)
      have HB := Lib.hid hb
      rw [h3] at h2
      obtain ⟨z, hzz⟩ : ∃ z, sizeL (l.take k) = z := ⟨_, rfl⟩
      rw [hzz] at h1 h2 HS ⊢
      have hz1 : z ≤ 184717953466368 := by omega
      clear hc hq hs h3 hzz hb h2
      go_wp2
      go_roundw
      case rel => exact ⟨k + 1, by omega, by go_num, by rw [HS.out]; congr 1; omega, HB.out.alloc hz _⟩
      case measure => simp [intOf]; omega
    · obtain rfl : k = l.length := by omega
      have hkk : ¬ (l.length : Int) < (l.length : Int) := by omega
      rw [List.take_length]
      go_wp2
      go_ret
      exact ⟨rfl, hb⟩
end Go.Proofs.YthifejdphflfpaaDoor
