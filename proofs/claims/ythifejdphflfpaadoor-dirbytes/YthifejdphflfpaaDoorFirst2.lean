/- What first of package dir answers. -/
import Derived.Test.YthifejdphflfpaaDoorFirst
import Derived.BigQuiet
namespace Go.Proofs.YthifejdphflfpaaDoor
open Go.RowKit Go.Sort
/-- The entry that bytes begin with, if they have all of it. -/
def fstN (s : ByteArray) (h : 0 < s.size) (h2 : s[0].toNat + 10 ≤ s.size) : Nm := ⟨s.extract 1 (1 + s[0].toNat), (s[1 + s[0].toNat]'(by omega)).toNat, wrap64 (numL ((s.extract (2 + s[0].toNat) s.size).data.toList.take 8) : Nat)⟩
set_option maxRecDepth 100000 in
set_option maxHeartbeats 1000000 in
theorem first_no (s : ByteArray) (w : World) (h : 0 < s.size) (h2 : s.size < s[0].toNat + 10) (hm : s.size ≤ 4096) :
    Calls Tryd.prog 50 #[.string s] w fun e w' => e = .returned (.tuple #[nmV ⟨⟨#[]⟩, 0, 0⟩, .bool false]) ∧ Below w.heap.size w w' := by
  obtain ⟨n, hn⟩ : ∃ n, s[0].toNat = n := ⟨_, rfl⟩
  have hn6 : n < 256 := by rw [← hn]; exact UInt8.toNat_lt _
  rw [hn] at h2
  have hn' : ((s[0].toNat : Nat) : Int) = (n : Int) := by rw [hn]
  have h2' : (s.size : Int) < (n : Int) + 10 := by omega
  have h0 : (0 : Int) < (s.size : Int) := by omega
  have hz0 : (w.alloc (nmB ⟨⟨#[]⟩, 0, 0⟩)).heap[w.heap.size]? = some (nmB ⟨⟨#[]⟩, 0, 0⟩) := heap_new _ _
  go_enter Tryd.func50, Tryd.ntmps50
  go_upto_region 3 with fail
  obtain ⟨W0, hW0⟩ : ∃ W0, w.alloc (.cells #[.string ⟨#[]⟩, .int .i64 0, .int .i64 0] 25) = W0 := ⟨_, rfl⟩
  have hb0 : Below w.heap.size w W0 := by rw [← hW0]; exact (Below.refl _ _).alloc (Nat.le_refl _) _
  have hm0 : W0.heap[w.heap.size]? = some (nmB ⟨⟨#[]⟩, 0, 0⟩) := by rw [← hW0]; exact heap_new _ _
  obtain ⟨y0, y1, y2⟩ := nm_cells hm0
  have r0 := nm_frozen hm0 0; have r1 := nm_frozen hm0 1; have r2 := nm_frozen hm0 2
  try rw [hW0]
  clear hW0 hm0 hz0
  go_wp2
  refine bodyPost_ret (v := .tuple #[nmV ⟨⟨#[]⟩, 0, 0⟩, .bool false]) (by simp [results, Tryd.results50, go_sem, nmV, y0, y1, y2]) rfl ⟨rfl, ?_⟩
  exact set3_below hb0 (Nat.le_refl _) _ _ _
set_option maxRecDepth 100000 in
set_option maxHeartbeats 2000000 in
theorem first_yes (s : ByteArray) (w : World) (h : 0 < s.size) (h2 : s[0].toNat + 10 ≤ s.size) (hm : s.size ≤ 4096) :
    Calls Tryd.prog 50 #[.string s] w fun e w' => e = .returned (.tuple #[nmV (fstN s h h2), .bool true]) ∧ Below w.heap.size w w' := by
  have hf : fstN s h h2 = ⟨s.extract 1 (1 + s[0].toNat), (s[1 + s[0].toNat]'(by omega)).toNat, wrap64 (numL ((s.extract (2 + s[0].toNat) s.size).data.toList.take 8) : Nat)⟩ := rfl
  rw [hf]
  clear hf
  obtain ⟨n, hn⟩ : ∃ n, s[0].toNat = n := ⟨_, rfl⟩
  have hn6 : n < 256 := by rw [← hn]; exact UInt8.toNat_lt _
  simp only [hn] at h2 ⊢
  have hn' : ((s[0].toNat : Nat) : Int) = (n : Int) := by rw [hn]
  have h2' : ¬ (s.size : Int) < (n : Int) + 10 := by omega
  have h0 : (0 : Int) < (s.size : Int) := by omega
  obtain ⟨q1, hq1⟩ : ∃ q1, s.extract 1 (1 + n) = q1 := ⟨_, rfl⟩
  obtain ⟨q2, hq2⟩ : ∃ q2, s.extract (1 + n) s.size = q2 := ⟨_, rfl⟩
  have hz2 : q2.size = s.size - (1 + n) := by rw [← hq2, ByteArray.size_extract]; omega
  have hq20 : 0 < q2.size := by omega
  have hg2 : q2[0] = s[1 + n]'(by omega) := by
    have : q2[0] = (s.extract (1 + n) s.size)[0]'(by rw [ByteArray.size_extract]; omega) := by simp only [hq2]
    rw [this, ByteArray.getElem_extract]; rfl
  obtain ⟨q3, hq3⟩ : ∃ q3, q2.extract 1 q2.size = q3 := ⟨_, rfl⟩
  have hz3 : q3.size = q2.size - 1 := by rw [← hq3, ByteArray.size_extract]; omega
  have hq3' : s.extract (2 + n) s.size = q3 := by
    rw [← hq3, ← hq2, ByteArray.size_extract, ByteArray.extract_extract]
    congr 1 <;> omega
  rw [hq3', ← hg2, hq1]
  obtain ⟨X, hX⟩ : ∃ X, numL (q3.data.toList.take 8) = X := ⟨_, rfl⟩
  have HN := Lib.hid (fun W => number_any q3 W (by omega) (by omega))
  rw [hX] at HN ⊢
  go_enter Tryd.func50, Tryd.ntmps50
  go_upto_region 4 with fail
  obtain ⟨W0, hW0⟩ : ∃ W0, w.alloc (.cells #[.string ⟨#[]⟩, .int .i64 0, .int .i64 0] 25) = W0 := ⟨_, rfl⟩
  have hb0 : Below w.heap.size w W0 := by rw [← hW0]; exact (Below.refl _ _).alloc (Nat.le_refl _) _
  have hm0 : W0.heap[w.heap.size]? = some (nmB ⟨⟨#[]⟩, 0, 0⟩) := by rw [← hW0]; exact heap_new _ _
  try rw [hW0]
  have h10 : (1 : Int) ≤ 1 + (n : Int) := by omega
  have h1n : (1 : Int) + (n : Int) ≤ (s.size : Int) := by omega
  have h1nn : ((1 : Int) + (n : Int)).toNat = 1 + n := by omega
  have h12 : (1 : Int) ≤ (q2.size : Int) := by omega
  have h02 : (0 : Int) < (q2.size : Int) := by omega
  clear hW0 hn hz3 hz2 hq3' hX hg2 hm
  go_quiet (fail)
  obtain ⟨W1, hW1⟩ : ∃ W1, W0.drewN nq = W1 := ⟨_, rfl⟩
  have hb1 : Below W0.heap.size W0 W1 := by rw [← hW1]; exact bdn (Below.refl _ _) _
  have hm1 : W1.heap[w.heap.size]? = some (nmB ⟨⟨#[]⟩, 0, 0⟩) := by rw [← hW1]; exact hm0
  have hbW := Lib.hid (hb0.trans (hb1.mono hb0.size))
  rw [hW1]
  clear hW1 hb1 hm0 hb0
  go_wp2_with fail
  refine wp_region_tail_d 8 (by kernel_rfl) (by kernel_rfl) ?_
  simp only [List.take_succ_cons, List.take_zero, List.drop_succ_cons, List.drop_zero]
  repeat (go_big_quiet_step (first | (go_at_call 59; exact Calls.quiet_of_same (HN.out _))))
  refine wpQuiet_nil ?_
  intro _ hw'
  obtain ⟨nq2, hw''⟩ := hw'
  subst hw''
  have hm2 : (W1.drewN nq2).heap[w.heap.size]? = some (nmB ⟨⟨#[]⟩, 0, 0⟩) := hm1
  have HB2 := Lib.hid (bdn hbW.out nq2)
  obtain ⟨W2, hW2⟩ : ∃ W2, W1.drewN nq2 = W2 := ⟨_, rfl⟩
  rw [hW2] at hm2 HB2 ⊢
  obtain ⟨y0, y1, y2⟩ := nm_cells hm2
  have r0 := nm_frozen hm2 0; have r1 := nm_frozen hm2 1; have r2 := nm_frozen hm2 2
  clear hW2 hm2 hm1
  go_wp2
  refine bodyPost_ret (v := .tuple #[nmV ⟨q1, q2[0].toNat, wrap64 (X : Nat)⟩, .bool true]) (by simp [results, Tryd.results50, go_sem, nmV, y0, y1, y2]; have := UInt8.toNat_lt q2[0]; unfold wrap64; omega) rfl ⟨rfl, ?_⟩
  exact set3_below HB2.out (Nat.le_refl _) _ _ _
end Go.Proofs.YthifejdphflfpaaDoor
