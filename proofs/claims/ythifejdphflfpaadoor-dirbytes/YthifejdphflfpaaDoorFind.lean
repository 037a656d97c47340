/- What Find of package dir and of the reference answers. -/
import Derived.Test.YthifejdphflfpaaDoorOrdB
namespace Go.Proofs.YthifejdphflfpaaDoor
open Go.RowKit Go.Sort
def findL (l : List Nm) (x : ByteArray) : Option Nm := l.find? fun m => m.nm.toList == x.toList
def fnd : Option Nm → Nm | some m => m | none => ⟨⟨#[]⟩, 0, 0⟩
theorem findL_step (l : List Nm) (x : ByteArray) (k : Nat) (h : k < l.length) : findL (l.drop k) x = if (l[k].nm.toList == x.toList) = true then some l[k] else findL (l.drop (k + 1)) x := by
  unfold findL
  rw [List.drop_eq_getElem_cons h, List.find?_cons]
  cases (l[k].nm.toList == x.toList) <;> simp
theorem findL_in (l : List Nm) (x : ByteArray) : (findL l x).isSome = inB l x := by
  unfold findL inB
  induction l with
  | nil => rfl
  | cons m l ih => rw [List.find?_cons, List.any_cons]; cases (m.nm.toList == x.toList) <;> simp [ih]
theorem nm_frozen {w : World} {B : Nat} {m : Nm} (h : w.heap[B]? = some (nmB m)) (i : Nat) : w.frozen? ⟨B, i, none⟩ = false := by simp [World.frozen?, h, nmB]
theorem set3_below {n B : Nat} {w w' : World} (h : Below n w w') (hB : n ≤ B) (v0 v1 v2 : Value) : Below n w (((w'.setCell ⟨B, 0, none⟩ v0).setCell ⟨B, 1, none⟩ v1).setCell ⟨B, 2, none⟩ v2) :=
  ((h.setCell (p := ⟨B, 0, none⟩) hB v0).setCell (p := ⟨B, 1, none⟩) hB v1).setCell (p := ⟨B, 2, none⟩) hB v2
set_option maxRecDepth 100000 in
set_option maxHeartbeats 2000000 in
theorem Find_any (p : Option Addr) (cap : Nat) (l : List Nm) (x : ByteArray) (w : World) (hm : l.length ≤ maxLen) (hc : NsAt w p l) :
    Calls Tryd.prog 21 #[.slice p l.length cap, .string x] w fun e w' => e = .returned (.tuple #[nmV (fnd (findL l x)), .bool (findL l x).isSome]) ∧ Below w.heap.size w w' := by
  unfold maxLen at hm
  go_enter Tryd.func21, Tryd.ntmps21
  go_wp2_with fail
  go_loopw [10] (fun i wr => ∃ k : Nat, k ≤ l.length ∧ i = .int .i64 k ∧ findL l x = findL (l.drop k) x ∧ wr.heap[w.heap.size]? = some (nmB ⟨⟨#[]⟩, 0, 0⟩) ∧ Below w.heap.size w wr) (fun i _ => l.length - (intOf i).toNat)
  case atStart => exact ⟨0, Nat.zero_le _, rfl, rfl, heap_new _ _, (Below.refl _ _).alloc (Nat.le_refl _) _⟩
  case round =>
    obtain ⟨k, hk, rfl, hf, hz0, hb⟩ := hrel
    have hz := hb.size
    have HF := Lib.hid hf
    have hzl := (Array.getElem?_eq_some_iff.1 hz0).1
    clear hf
    by_cases hlt : k < l.length
    · have hki : (k : Int) < (l.length : Int) := by omega
      obtain ⟨b, off, rfl, hbl, hq⟩ := hc k hlt
      have hbw : b < wr.heap.size := by omega
      obtain ⟨c0, c1, c2⟩ := hq.below hb hbl
      have HS := Lib.hid (findL_step l x k hlt)
      obtain ⟨m, hmm⟩ : ∃ m, l[k] = m := ⟨_, rfl⟩
      rw [hmm] at c0 c1 c2 HS
      clear hc hq hmm
      cases he : (m.nm.toList == x.toList)
      · have HN : Hid (findL l x = findL (l.drop (k + 1)) x) := by
          simp only [Hid]; rw [HF.out, HS.out, he]; rfl
        have HZ0 := Lib.hid hz0
        clear hz0 HS HF
        go_wp2
        go_roundw
        case rel => exact ⟨k + 1, by omega, by go_num, HN.out, (Below.heap_alloc _ _ _ hzl).trans HZ0.out, hb.alloc hz _⟩
        case measure => simp [intOf]; omega
      · have HN : Hid (findL l x = some m) := by
          simp only [Hid]; rw [HF.out, HS.out, he]; rfl
        clear HS HF
        go_upto_region 5 with fail
        obtain ⟨V, hV⟩ : ∃ V, wr.alloc (.cells #[.string m.nm, .int .i64 m.kd, .int .i64 m.id] 25) = V := ⟨_, rfl⟩
        have hbV : Below wr.heap.size wr V := by rw [← hV]; exact (Below.refl _ _).alloc (Nat.le_refl _) _
        obtain ⟨z0, z1, z2⟩ : NmAt V wr.heap.size 0 m := by rw [← hV]; exact NmAt.new wr m
        have hB0 : V.heap[w.heap.size]? = some (nmB ⟨⟨#[]⟩, 0, 0⟩) := (hbV.block _ hzl).trans hz0
        obtain ⟨y0, y1, y2⟩ := nm_cells hB0
        have r0 := nm_frozen hB0 0; have r1 := nm_frozen hB0 1; have r2 := nm_frozen hB0 2
        have HBV := Lib.hid (hb.trans (hbV.mono hz))
        try rw [hV]
        clear hV hbV hB0 c0 c1 c2 hz0
        go_wp2
        refine bodyPost_ret (v := .tuple #[nmV m, .bool true]) (by simp [results, Tryd.results21, go_sem, nmV, y0, y1, y2]) rfl ⟨by rw [HN.out]; rfl, ?_⟩
        exact set3_below HBV.out (Nat.le_refl _) _ _ _
    · obtain rfl : k = l.length := by omega
      have hkk : ¬ (l.length : Int) < (l.length : Int) := by omega
      have HN : Hid (findL l x = none) := by
        simp only [Hid]; rw [HF.out, List.drop_length]; rfl
      obtain ⟨y0, y1, y2⟩ := nm_cells hz0
      have r0 := nm_frozen hz0 0; have r1 := nm_frozen hz0 1; have r2 := nm_frozen hz0 2
      clear hc HF
      go_wp2
      refine bodyPost_ret (v := .tuple #[nmV ⟨⟨#[]⟩, 0, 0⟩, .bool false]) (by simp [results, Tryd.results21, go_sem, nmV, y0, y1, y2]) rfl ⟨by rw [HN.out]; rfl, ?_⟩
      exact set3_below hb (Nat.le_refl _) _ _ _
set_option maxRecDepth 100000 in
set_option maxHeartbeats 2000000 in
theorem refFind_any (p : Option Addr) (cap : Nat) (l : List Nm) (x : ByteArray) (w : World) (hm : l.length ≤ maxLen) (hc : NsAt w p l) :
    Calls Tryd.prog 22 #[.slice p l.length cap, .string x] w fun e w' => e = .returned (.tuple #[nmV (fnd (findL l x)), .bool (findL l x).isSome]) ∧ Below w.heap.size w w' := by
  unfold maxLen at hm
  go_enter Tryd.func22, Tryd.ntmps22
  go_wp2_with fail
  go_loopw [10] (fun i wr => ∃ k : Nat, k ≤ l.length ∧ i = .int .i64 k ∧ findL l x = findL (l.drop k) x ∧ wr.heap[w.heap.size]? = some (nmB ⟨⟨#[]⟩, 0, 0⟩) ∧ Below w.heap.size w wr) (fun i _ => l.length - (intOf i).toNat)
  case atStart => exact ⟨0, Nat.zero_le _, rfl, rfl, heap_new _ _, (Below.refl _ _).alloc (Nat.le_refl _) _⟩
  case round =>
    obtain ⟨k, hk, rfl, hf, hz0, hb⟩ := hrel
    have hz := hb.size
    have HF := Lib.hid hf
    have hzl := (Array.getElem?_eq_some_iff.1 hz0).1
    clear hf
    by_cases hlt : k < l.length
    · have hki : (k : Int) < (l.length : Int) := by omega
      obtain ⟨b, off, rfl, hbl, hq⟩ := hc k hlt
      have hbw : b < wr.heap.size := by omega
      obtain ⟨c0, c1, c2⟩ := hq.below hb hbl
      have HS := Lib.hid (findL_step l x k hlt)
      obtain ⟨m, hmm⟩ : ∃ m, l[k] = m := ⟨_, rfl⟩
      rw [hmm] at c0 c1 c2 HS
      clear hc hq hmm
      cases he : (m.nm.toList == x.toList)
      · have HN : Hid (findL l x = findL (l.drop (k + 1)) x) := by
          simp only [Hid]; rw [HF.out, HS.out, he]; rfl
        have HZ0 := Lib.hid hz0
        clear hz0 HS HF
        go_wp2
        go_roundw
        case rel => exact ⟨k + 1, by omega, by go_num, HN.out, (Below.heap_alloc _ _ _ hzl).trans HZ0.out, hb.alloc hz _⟩
        case measure => simp [intOf]; omega
      · have HN : Hid (findL l x = some m) := by
          simp only [Hid]; rw [HF.out, HS.out, he]; rfl
        clear HS HF
        go_upto_region 5 with fail
        obtain ⟨V, hV⟩ : ∃ V, wr.alloc (.cells #[.string m.nm, .int .i64 m.kd, .int .i64 m.id] 25) = V := ⟨_, rfl⟩
        have hbV : Below wr.heap.size wr V := by rw [← hV]; exact (Below.refl _ _).alloc (Nat.le_refl _) _
        obtain ⟨z0, z1, z2⟩ : NmAt V wr.heap.size 0 m := by rw [← hV]; exact NmAt.new wr m
        have hB0 : V.heap[w.heap.size]? = some (nmB ⟨⟨#[]⟩, 0, 0⟩) := (hbV.block _ hzl).trans hz0
        obtain ⟨y0, y1, y2⟩ := nm_cells hB0
        have r0 := nm_frozen hB0 0; have r1 := nm_frozen hB0 1; have r2 := nm_frozen hB0 2
        have HBV := Lib.hid (hb.trans (hbV.mono hz))
        try rw [hV]
        clear hV hbV hB0 c0 c1 c2 hz0
        go_wp2
        refine bodyPost_ret (v := .tuple #[nmV m, .bool true]) (by simp [results, Tryd.results22, go_sem, nmV, y0, y1, y2]) rfl ⟨by rw [HN.out]; rfl, ?_⟩
        exact set3_below HBV.out (Nat.le_refl _) _ _ _
    · obtain rfl : k = l.length := by omega
      have hkk : ¬ (l.length : Int) < (l.length : Int) := by omega
      have HN : Hid (findL l x = none) := by
        simp only [Hid]; rw [HF.out, List.drop_length]; rfl
      obtain ⟨y0, y1, y2⟩ := nm_cells hz0
      have r0 := nm_frozen hz0 0; have r1 := nm_frozen hz0 1; have r2 := nm_frozen hz0 2
      clear hc HF
      go_wp2
      refine bodyPost_ret (v := .tuple #[nmV ⟨⟨#[]⟩, 0, 0⟩, .bool false]) (by simp [results, Tryd.results22, go_sem, nmV, y0, y1, y2]) rfl ⟨by rw [HN.out]; rfl, ?_⟩
      exact set3_below hb (Nat.le_refl _) _ _ _
end Go.Proofs.YthifejdphflfpaaDoor
