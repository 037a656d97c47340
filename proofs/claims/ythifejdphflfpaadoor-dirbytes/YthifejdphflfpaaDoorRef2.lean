/- What the reference's Right answers. -/
import Derived.Test.YthifejdphflfpaaDoorRef1
namespace Go.Proofs.YthifejdphflfpaaDoor
open Go.RowKit Go.Sort
/-- The name ahead of a place. -/
def prevN (l : List Nm) (k : Nat) : ByteArray := match k with | 0 => ⟨#[]⟩ | k + 1 => (l[k]?).elim ⟨#[]⟩ (·.nm)
def gr (l : List Nm) (k : Nat) : Bool := (l.drop k).all goodN && risesB (prevN l k) (l.drop k)
theorem gr_step (l : List Nm) (k : Nat) (h : k < l.length) : gr l k = (goodN l[k] && ltB (prevN l k) l[k].nm && gr l (k + 1)) := by
  unfold gr
  rw [List.drop_eq_getElem_cons h]
  have e : prevN l (k + 1) = l[k].nm := by simp [prevN, List.getElem?_eq_getElem h]
  rw [List.all_cons, risesB, e]
  cases goodN l[k] <;> cases ltB (prevN l k) l[k].nm <;> simp
theorem gr_right (l : List Nm) : rightL l = (gr l 0 && decide (sizeL l ≤ 4096)) := by
  unfold rightL gr
  rw [rk_eq l 0 _ (by omega), Int.zero_add]
  rfl
theorem nm_gx {X : World} {b : Nat} {m : Nm} (h : X.heap[b]? = some (nmB m)) (n : Nat) (os : Array Obj) : NmAt (gx X n os) b 0 m :=
  (nm_cells h).below (gx_below X n os) (Array.getElem?_eq_some_iff.1 h).1
set_option maxRecDepth 100000 in
set_option maxHeartbeats 2000000 in
theorem refRight_any (p : Option Addr) (cap : Nat) (l : List Nm) (w : World) (hm : l.length ≤ 4398046511104) (hc : NsAt w p l) :
    Calls Tryd.prog 13 #[.slice p l.length cap] w fun e w' => e = .returned (.bool (rightL l)) ∧ Below w.heap.size w w' := by
  have HR := Lib.hid (gr_right l)
  go_enter Tryd.func13, Tryd.ntmps13
  go_wp2_with fail
  go_loopw [7] (fun i wr => ∃ k : Nat, k ≤ l.length ∧ i = .int .i64 k ∧ gr l 0 = gr l k ∧ (∀ m ∈ l.take k, m.nm.size ≤ 32) ∧ Below w.heap.size w wr) (fun i _ => l.length - (intOf i).toNat)
  case atStart => exact ⟨0, Nat.zero_le _, rfl, rfl, fun m hm => by simp at hm, Below.refl _ _⟩
  case round =>
    obtain ⟨k, hk, rfl, hg0, hsz, hb⟩ := hrel
    have hz := hb.size
    have HG0 := Lib.hid hg0
    have HSZ := Lib.hid hsz
    clear hg0 hsz
    by_cases hlt : k < l.length
    · have hki : (k : Int) < (l.length : Int) := by omega
      obtain ⟨b, off, hp, hbl, hq⟩ := hc k hlt
      have hbw : b < wr.heap.size := by omega
      have HST := Lib.hid (gr_step l k hlt)
      have HTK := Lib.hid (List.take_succ_eq_append_getElem hlt)
      obtain ⟨m, hmm⟩ : ∃ m, l[k] = m := ⟨_, rfl⟩
      rw [hmm] at hq HST HTK
      obtain ⟨c0, c1, c2⟩ := hq.below hb hbl
      obtain ⟨X, hX⟩ : ∃ X, wr.alloc (.cells #[.string m.nm, .int .i64 m.kd, .int .i64 m.id] 25) = X := ⟨_, rfl⟩
      have hXm : X.heap[wr.heap.size]? = some (nmB m) := by rw [← hX]; exact heap_new _ _
      have hXB : Below wr.heap.size wr X := by rw [← hX]; exact (Below.refl _ _).alloc (Nat.le_refl _) _
      have f0 := fun n os => (nm_gx hXm n os).c0
      have f1 := fun n os => (nm_gx hXm n os).c1
      have f2 := fun n os => (nm_gx hXm n os).c2
      have hXs : X.heap.size = wr.heap.size + 1 := by rw [← hX]; simp
      have HMt : Hid (∀ n os, Calls Tryd.prog 32 #[.agg #[.string m.nm, .int .i64 m.kd, .int .i64 m.id]] (gx X n os) fun e w' => e = .returned (.bool (goodN m)) ∧ Below (gx X n os).heap.size (gx X n os) w') := fun n os => Good_any m _
      have HXB := Lib.hid (hb.trans (hXB.mono hz))
      have hXz : w.heap.size ≤ X.heap.size := by omega
      cases hg : goodN m
      · rw [hg] at HMt
        have hbad : rightL l = false := by rw [HR.out, HG0.out, HST.out, hg]; rfl
        have HBad := Lib.hid hbad
        subst hp
        clear hXm hXB hq hmm hc hbad
        go_wp2_with fail
        clear hX
        refine wp_region_quiet_gx (by kernel_rfl) (by kernel_rfl) ?_
        repeat (go_big_quiet_step (first | (go_at_call 32; exact calls_gx (HMt.out _ _))))
        refine wpQuiet_nil ?_
        intro _ hw'
        obtain ⟨⟨nq, osq⟩, hw''⟩ := hw'
        subst hw''
        have hbq := gx_below X nq osq
        simp only
        go_wp2
        go_ret
        exact ⟨ret_bool HBad.out.symm, HXB.out.trans (hbq.mono hXz)⟩
      · rw [hg] at HMt
        have hsm : m.nm.size ≤ 32 := (goodN_size hg).2
        have hroom : ∀ x ∈ l.take (k + 1), x.nm.size ≤ 32 := fun x hx => by
          rw [HTK.out] at hx
          rcases List.mem_append.1 hx with hx | hx
          · exact HSZ.out x hx
          · simp at hx; subst hx; exact hsm
        have HRM := Lib.hid hroom
        clear hroom
        by_cases hk0 : k = 0
        · have hnx : gr l k = gr l (k + 1) := by
            rw [HST.out, hg]
            have : ltB (prevN l k) m.nm = true := by subst hk0; exact lt_empty _ (goodN_size hg).1
            rw [this]; rfl
          have HNX := Lib.hid hnx
          have hd : decide (0 < k) = false := by rw [decide_eq_false_iff_not]; omega
          subst hp
          clear hXm hXB hq hmm hc hnx hk0
          go_wp2_with fail
          clear hX
          refine wp_region_quiet_gx (by kernel_rfl) (by kernel_rfl) ?_
          repeat (go_big_quiet_step (first | (go_at_call 32; exact calls_gx (HMt.out _ _))))
          refine wpQuiet_nil ?_
          intro _ hw'
          obtain ⟨⟨nq, osq⟩, hw''⟩ := hw'
          subst hw''
          have hbq := gx_below X nq osq
          simp only
          go_wp2
          go_roundw
          case rel => exact ⟨k + 1, by omega, by go_num, by rw [HG0.out, HNX.out], HRM.out, HXB.out.trans (hbq.mono hXz)⟩
          case measure => simp [intOf]; omega
        · obtain ⟨j, hjk⟩ : ∃ j, k = j + 1 := ⟨k - 1, by omega⟩
          have hjl : j < l.length := by omega
          obtain ⟨b', off', hp', hbl', hq'⟩ := hc j hjl
          have hpv : prevN l k = l[j].nm := by subst hjk; simp [prevN, List.getElem?_eq_getElem hjl]
          rw [hpv] at HST
          obtain ⟨q, hqq⟩ : ∃ q, l[j] = q := ⟨_, rfl⟩
          rw [hqq] at hq' HST
          rw [hp] at hp'
          obtain ⟨rfl, rfl⟩ : b = b' ∧ off = off' := by simpa using hp'
          have g0 := fun n os => ((hq'.below (hb.trans (hXB.mono hz)) hbl).below (gx_below X n os) (by omega)).c0
          have hk0 : decide (0 < k) = true := by rw [decide_eq_true_eq]; omega
          have hji : (k : Int) - 1 = (j : Int) := by omega
          have hjl2 : (j : Int) < (l.length : Int) := by omega
          subst hp
          clear hjk
          cases hlb : Op.bytesLess q.nm.toList m.nm.toList
          · have hbad : rightL l = false := by rw [HR.out, HG0.out, HST.out, hg, show ltB q.nm m.nm = false from hlb]; rfl
            have HBad := Lib.hid hbad
            clear hXm hXB hq hmm hc hbad hqq hq' hp'
            go_wp2_with fail
            clear hX
            refine wp_region_quiet_gx (by kernel_rfl) (by kernel_rfl) ?_
            repeat (go_big_quiet_step (first | (go_at_call 32; exact calls_gx (HMt.out _ _))))
            refine wpQuiet_nil ?_
            intro _ hw'
            obtain ⟨⟨nq, osq⟩, hw''⟩ := hw'
            subst hw''
            have hbq := gx_below X nq osq
            simp only
            go_wp2
            go_ret
            exact ⟨ret_bool HBad.out.symm, HXB.out.trans (hbq.mono hXz)⟩
          · have hnx : gr l k = gr l (k + 1) := by rw [HST.out, hg, show ltB q.nm m.nm = true from hlb]; rfl
            have HNX := Lib.hid hnx
            clear hXm hXB hq hmm hc hnx hqq hq' hp'
            go_wp2_with fail
            clear hX
            refine wp_region_quiet_gx (by kernel_rfl) (by kernel_rfl) ?_
            repeat (go_big_quiet_step (first | (go_at_call 32; exact calls_gx (HMt.out _ _))))
            refine wpQuiet_nil ?_
            intro _ hw'
            obtain ⟨⟨nq, osq⟩, hw''⟩ := hw'
            subst hw''
            have hbq := gx_below X nq osq
            simp only
            go_wp2
            go_roundw
            case rel => exact ⟨k + 1, by omega, by go_num, by rw [HG0.out, HNX.out], HRM.out, HXB.out.trans (hbq.mono hXz)⟩
            case measure => simp [intOf]; omega
    · obtain rfl : k = l.length := by omega
      have hkk : ¬ (l.length : Int) < (l.length : Int) := by omega
      have hall : ∀ m ∈ l, m.nm.size ≤ 32 := by have := HSZ.out; rwa [List.take_length] at this
      have HS := Lib.hid (Size_any p cap l wr hm hall (fun j hj => by
        obtain ⟨b, off, hp, hbl, hq⟩ := hc j hj
        exact ⟨b, off, hp, by omega, hq.below hb hbl⟩))
      have hgl : gr l l.length = true := by unfold gr; rw [List.drop_length]; rfl
      have hfin : rightL l = decide (sizeL l ≤ 4096) := by rw [HR.out, HG0.out, hgl]; simp
      have HFin := Lib.hid hfin
      generalize sizeL l = z at HS HFin
      clear hc hall hgl hfin
      have HB := Lib.hid hb
      go_wp2_with (go_at_call 33; refine HS.out.mono ?_; rintro e w1 ⟨rfl, hb1⟩)
      go_ret
      exact ⟨ret_bool HFin.out.symm, HB.out.trans (hb1.mono hz)⟩
end Go.Proofs.YthifejdphflfpaaDoor
