/- Which entries and lists of entries are right, to package dir. -/
import Derived.Test.YthifejdphflfpaaDoorChars
import Derived.Test.YthifejdphflfpaaDoorPInv
import Derived.Laws.Cover1
namespace Go.Proofs.YthifejdphflfpaaDoor
open Go.RowKit Go.Sort
/-- May it be a name? -/
def nameB (s : ByteArray) : Bool := decide (1 ≤ s.size ∧ s.size ≤ 32) && !barred s.data.toList && !(s.data.toList == [46]) && !(s.data.toList == [46, 46])
theorem tl (s : ByteArray) : s.toList = s.data.toList := Lib.toList_data s
set_option maxHeartbeats 1000000 in
theorem rightName_any (s : ByteArray) (w : World) : Calls Tryd.prog 42 #[.string s] w fun e w' => e = .returned (.bool (nameB s)) ∧ Below w.heap.size w w' := by
  by_cases h1 : 1 ≤ s.size
  · by_cases h2 : s.size ≤ 32
    · have hd : nameB s = (!barred s.data.toList && !(s.data.toList == [46]) && !(s.data.toList == [46, 46])) := by unfold nameB; rw [decide_eq_true ⟨h1, h2⟩, Bool.true_and]
      have HD := Lib.hid hd
      have h1' : (1 : Int) ≤ (s.size : Int) := by omega
      have h2' : (s.size : Int) ≤ 32 := by omega
      have HC := Lib.hid (ContainsAny_any s w h2)
      have e1 := Lib.hid (tl s)
      clear hd h1 h2
      cases hb : barred s.data.toList
      · rw [hb] at HC
        go_enter Tryd.func42, Tryd.ntmps42
        go_wp2_with (go_at_call 57; refine HC.out.mono ?_; rintro e w1 ⟨rfl, hb1⟩)
        all_goals (go_ret; refine ⟨ret_bool ?_, hb1⟩; rw [HD.out, hb])
        · rename_i h; rw [tl] at h; rw [h]; rfl
        · rw [tl]; simp
      · rw [hb] at HC
        go_enter Tryd.func42, Tryd.ntmps42
        go_wp2_with (go_at_call 57; refine HC.out.mono ?_; rintro e w1 ⟨rfl, hb1⟩)
        go_ret
        exact ⟨ret_bool (by rw [HD.out, hb]; rfl), hb1⟩
    · have h1' : (1 : Int) ≤ (s.size : Int) := by omega
      have h2' : ¬ (s.size : Int) ≤ 32 := by omega
      go_enter Tryd.func42, Tryd.ntmps42
      go_wp2
      go_ret
      exact ⟨ret_bool (by unfold nameB; rw [decide_eq_false (by omega)]; rfl), Below.refl _ _⟩
  · have h1' : ¬ (1 : Int) ≤ (s.size : Int) := by omega
    go_enter Tryd.func42, Tryd.ntmps42
    go_wp2
    go_ret
    exact ⟨ret_bool (by unfold nameB; rw [decide_eq_false (by omega)]; rfl), Below.refl _ _⟩
theorem NmAt.new (w : World) (m : Nm) : NmAt (w.alloc (nmB m)) w.heap.size 0 m := by
  refine ⟨?_, ?_, ?_⟩ <;> (simp only [World.cell?, heap_new]; rfl)
theorem NmAt.fresh {w w1 : World} {m : Nm} (h : Below (w.alloc (nmB m)).heap.size (w.alloc (nmB m)) w1) : NmAt w1 w.heap.size 0 m ∧ w.heap.size < w1.heap.size ∧ Below w.heap.size w w1 := by
  have hs : (w.alloc (nmB m)).heap.size = w.heap.size + 1 := by simp
  refine ⟨(NmAt.new w m).below h (by rw [hs]; omega), by have := h.size; rw [hs] at this; omega, ((Below.refl w.heap.size w).alloc (Nat.le_refl _) (nmB m)).trans (h.mono (by rw [hs]; omega))⟩
/-- May it be an entry? -/
def goodN (m : Nm) : Bool := nameB m.nm && (m.kd == 1 || m.kd == 2) && decide (1 ≤ m.id ∧ m.id ≤ 2305843009213693951)
set_option maxHeartbeats 1000000 in
theorem rightEntry_any (m : Nm) (w : World) : Calls Tryd.prog 28 #[nmV m] w fun e w' => e = .returned (.bool (goodN m)) ∧ Below w.heap.size w w' := by
  unfold nmV
  have HN := Lib.hid (rightName_any m.nm (w.alloc (nmB m)))
  cases hB : nameB m.nm
  · rw [hB] at HN
    go_enter Tryd.func28, Tryd.ntmps28
    go_wp2_with (go_at_call 42; refine HN.out.mono ?_; rintro e w1 ⟨rfl, hb1⟩)
    go_ret
    exact ⟨ret_bool (by unfold goodN; rw [hB]; rfl), (NmAt.fresh hb1).2.2⟩
  · rw [hB] at HN
    go_enter Tryd.func28, Tryd.ntmps28
    go_wp2_with (go_at_call 42; refine HN.out.mono ?_; rintro e w1 ⟨rfl, hb1⟩; obtain ⟨⟨_, d1, d2⟩, d3, hb2⟩ := NmAt.fresh hb1; have HB1 := Lib.hid hb2; clear hb1 hb2)
    all_goals (go_ret; refine ⟨ret_bool ?_, HB1.out⟩; unfold goodN; rw [hB])
    all_goals (simp [*] <;> omega)
theorem width_any (m : Nm) (w : World) (h : m.nm.size ≤ 9223372036854775000) : Calls Tryd.prog 31 #[nmV m] w fun e w' => e = .returned (.int .i64 (m.nm.size + 10)) ∧ Below w.heap.size w w' := by
  unfold nmV
  go_enter Tryd.func31, Tryd.ntmps31
  go_wp2
  go_ret
  exact ⟨rfl, (Below.refl _ _).alloc (Nat.le_refl _) _⟩
/-- Is the first not behind the second? -/
def leB (a b : ByteArray) : Bool := Op.bytesLess a.toList b.toList || a.toList == b.toList
/-- Right entries that rise, from a size and a name on. -/
def rk : Int → ByteArray → List Nm → Bool
  | _, _, [] => true
  | z, b, m :: l => goodN m && !(leB m.nm b) && decide (z + (m.nm.size + 10) ≤ 4096) && rk (z + (m.nm.size + 10)) m.nm l
def rightL (l : List Nm) : Bool := rk 0 ⟨#[]⟩ l
theorem rk_step (z : Int) (b : ByteArray) (l : List Nm) (k : Nat) (h : k < l.length) : rk z b (l.drop k) = (goodN l[k] && !(leB l[k].nm b) && decide (z + (l[k].nm.size + 10) ≤ 4096) && rk (z + (l[k].nm.size + 10)) l[k].nm (l.drop (k + 1))) := by
  rw [List.drop_eq_getElem_cons h]; rfl
theorem goodN_size {m : Nm} (h : goodN m = true) : 1 ≤ m.nm.size ∧ m.nm.size ≤ 32 := by
  unfold goodN nameB at h
  simp only [Bool.and_eq_true, decide_eq_true_eq] at h
  exact h.1.1.1.1.1
set_option maxHeartbeats 1000000 in
theorem Right_any (p : Option Addr) (cap : Nat) (l : List Nm) (w : World) (hm : l.length ≤ maxLen) (hc : NsAt w p l) :
    Calls Tryd.prog 12 #[.slice p l.length cap] w fun e w' => e = .returned (.bool (rightL l)) ∧ Below w.heap.size w w' := by
  unfold maxLen at hm
  go_enter Tryd.func12, Tryd.ntmps12
  go_wp2_with fail
  go_loopw [3, 4, 9] (fun t a i wr => ∃ (k : Nat) (z : Int) (b : ByteArray), k ≤ l.length ∧ t = .int .i64 z ∧ a = .string b ∧ i = .int .i64 k ∧ (0 ≤ z ∧ z ≤ 4096) ∧ rightL l = rk z b (l.drop k) ∧ Below w.heap.size w wr) (fun _ _ i _ => l.length - (intOf i).toNat)
  case atStart => exact ⟨0, 0, ⟨#[]⟩, Nat.zero_le _, rfl, rfl, rfl, by omega, rfl, Below.refl _ _⟩
  case round =>
    obtain ⟨k, z, b0, hk, rfl, rfl, rfl, hz, hr, hb⟩ := hrel
    have HR := Lib.hid hr; clear hr
    have HBR := Lib.hid hb
    by_cases hlt : k < l.length
    · obtain ⟨b, off, rfl, hbl, hq⟩ := hc k hlt
      have HQ := Lib.hid (fun w1 (h : Below w.heap.size w w1) => hq.below h hbl)
      obtain ⟨c0, c1, c2⟩ := hq.below hb hbl
      have hbw : b < wr.heap.size := Nat.lt_of_lt_of_le hbl hb.size
      have HS := Lib.hid (rk_step z b0 l k hlt)
      have hki : (k : Int) < (l.length : Int) := by omega
      clear hc hq hb
      have hbs := HBR.out.size
      cases hg : goodN l[k]
      · have HE := Lib.hid (rightEntry_any l[k])
        rw [hg] at HE
        go_wp2_with (go_at_call 28; refine (HE.out _).mono ?_; rintro e w1 ⟨rfl, hb1⟩; have HB1 := Lib.hid (NmAt.fresh hb1).2.2; clear hb1)
        go_ret
        exact ⟨ret_bool (by rw [HR.out, HS.out, hg]; rfl), HBR.out.trans (HB1.out.mono hbs)⟩
      · have HE := Lib.hid (rightEntry_any l[k])
        rw [hg] at HE
        have hsz := goodN_size hg
        cases hle : leB l[k].nm b0
        · have hle' := hle
          unfold leB at hle'
          simp only [Bool.or_eq_false_iff] at hle'
          obtain ⟨hl1, hl2⟩ := hle'
          have HWd := Lib.hid (fun w => width_any l[k] w (by omega))
          have hzs : -9223372036854775808 ≤ z + (l[k].nm.size + 10) ∧ z + ((l[k].nm.size : Int) + 10) ≤ 9223372036854775807 := by omega
          by_cases h4 : z + ((l[k].nm.size : Int) + 10) ≤ 4096
          · have h4' : ¬ 4096 < z + ((l[k].nm.size : Int) + 10) := by omega
            go_wp2_with (first
              | (go_at_call 28; refine (HE.out _).mono ?_; rintro e w1 ⟨rfl, hb1⟩; obtain ⟨⟨e0, e1, e2⟩, e3, hb2⟩ := NmAt.fresh hb1; have HB1 := Lib.hid hb2; clear hb1 hb2)
              | (go_at_call 31; refine (HWd.out _).mono ?_; rintro e w2 ⟨rfl, hb2⟩; have f0 := (hb2.cell (p := ⟨wr.heap.size, 0, none⟩) e3).trans e0; have f3 : wr.heap.size < w2.heap.size := Nat.lt_of_lt_of_le e3 hb2.size; have HB2 := Lib.hid (HB1.out.trans (hb2.mono (Nat.le_of_lt e3))); clear hb2))
            go_roundw
            case rel => exact ⟨k + 1, z + (l[k].nm.size + 10), l[k].nm, by omega, by go_num, rfl, by go_num, by omega, by rw [HR.out, HS.out, hg, hle, decide_eq_true h4]; rfl, HBR.out.trans (HB2.out.mono hbs)⟩
            case measure => simp [intOf]; omega
          · have h4' : 4096 < z + ((l[k].nm.size : Int) + 10) := by omega
            go_wp2_with (first
              | (go_at_call 28; refine (HE.out _).mono ?_; rintro e w1 ⟨rfl, hb1⟩; obtain ⟨⟨e0, e1, e2⟩, e3, hb2⟩ := NmAt.fresh hb1; have HB1 := Lib.hid hb2; clear hb1 hb2)
              | (go_at_call 31; refine (HWd.out _).mono ?_; rintro e w2 ⟨rfl, hb2⟩; have f0 := (hb2.cell (p := ⟨wr.heap.size, 0, none⟩) e3).trans e0; have f3 : wr.heap.size < w2.heap.size := Nat.lt_of_lt_of_le e3 hb2.size; have HB2 := Lib.hid (HB1.out.trans (hb2.mono (Nat.le_of_lt e3))); clear hb2))
            go_ret
            exact ⟨ret_bool (by rw [HR.out, HS.out, hg, hle, decide_eq_false (by omega)]; rfl), HBR.out.trans (HB2.out.mono hbs)⟩
        · have hle' := hle
          unfold leB at hle'
          go_wp2_with (go_at_call 28; refine (HE.out _).mono ?_; rintro e w1 ⟨rfl, hb1⟩; obtain ⟨⟨e0, e1, e2⟩, e3, hb2⟩ := NmAt.fresh hb1; have HB1 := Lib.hid hb2; clear hb1 hb2)
          go_ret
          exact ⟨ret_bool (by rw [HR.out, HS.out, hle]; simp), HBR.out.trans (HB1.out.mono hbs)⟩
    · obtain rfl : k = l.length := by omega
      have hkk : ¬ (l.length : Int) < (l.length : Int) := by omega
      go_wp2
      go_ret
      exact ⟨ret_bool (by rw [HR.out, List.drop_length]; rfl), HBR.out⟩
end Go.Proofs.YthifejdphflfpaaDoor
