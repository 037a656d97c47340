/- A sum that goes on, in memory: New, Copy, Len. -/
import Derived.Test.YtfcmgodeehjnoaaDoorHexM
import Derived.Test.YtfcmgodeehjnoaaDoorBytes
import Derived.Test.YtfcmgodeehjnoaaDoorEnd
namespace Go.Proofs.YtfcmgodeehjnoaaDoor
open Go.RowKit Go.Sort
/-- The cells of a sum that has taken l. -/
def hashC (l : List UInt8) : List Value := U (lst (goneN l)) ++ (B (keptN l ++ List.replicate (64 - (keptN l).length) 0) ++ [.int .i64 (l.length : Int)])
def HAt (w : World) (g : Nat) (l : List UInt8) : Prop := At w g 0 (hashC l)
theorem kept_lt (l : List UInt8) : (keptN l).length < 64 := by rw [kept_len]; omega
theorem hash_len (l : List UInt8) : (hashC l).length = 73 := by
  have := kept_lt l
  unfold hashC
  simp only [List.length_append, U_len, B_len, lst_len, List.length_replicate, List.length_cons, List.length_nil]
  omega
theorem HAt.lt {w : World} {g : Nat} {l : List UInt8} (h : HAt w g l) : g < w.heap.size := At.lt h (by rw [hash_len]; omega)
theorem hash_n {w : World} {g : Nat} {l : List UInt8} (h : HAt w g l) : w.cell? ⟨g, 72, none⟩ = some (.int .i64 (l.length : Int)) := by
  have := kept_lt l
  refine At.cell (j := 72) h ?_
  unfold hashC
  rw [List.getElem?_append_right (by rw [U_len, lst_len]; omega), U_len, lst_len, List.getElem?_append_right (by rw [B_len, List.length_append, List.length_replicate]; omega), B_len, List.length_append, List.length_replicate, show 72 - 8 - ((keptN l).length + (64 - (keptN l).length)) = 0 from by omega]
  rfl
theorem hash_fz {w : World} {g : Nat} {l : List UInt8} (h : HAt w g l) (j : Nat) (hj : j < 73) : w.frozen? ⟨g, j, none⟩ = false := by
  have := At.fz h j (by rw [hash_len]; exact hj)
  rw [Nat.zero_add] at this; exact this
def zc : Array Value := ((List.replicate 8 (Value.int .u32 0) : List Value) ++ (List.replicate 64 (Value.int .u8 0) ++ [Value.int .i64 0])).toArray
theorem zero_hash (w : World) : (zeroValue 47).run Tryd.prog w = .ok (.agg zc) w := by kernel_rfl
theorem zc_size : zc.size = 73 := rfl
theorem hash_nil : (((((((((zc.setIfInBounds 0 (.int .u32 1779033703)).setIfInBounds 1 (.int .u32 3144134277)).setIfInBounds 2 (.int .u32 1013904242)).setIfInBounds 3 (.int .u32 2773480762)).setIfInBounds 4 (.int .u32 1359893119)).setIfInBounds 5 (.int .u32 2600822924)).setIfInBounds 6 (.int .u32 528734635)).setIfInBounds 7 (.int .u32 1541459225))).toList = hashC [] := by kernel_rfl
set_option maxRecDepth 100000 in
set_option maxHeartbeats 2000000 in
theorem New_any (w : World) : Calls Tryd.prog 10 #[] w fun e w' => e = .returned (.pointer (some ⟨w.heap.size, 0, none⟩)) ∧ Below w.heap.size w w' ∧ HAt w' w.heap.size [] := by
  have hz := zero_hash
  have hzs := zc_size
  go_enter Tryd.func10, Tryd.ntmps10
  go_wp2
  go_ret
  refine ⟨rfl, (Below.refl _ _).alloc (Nat.le_refl _) _, ?_⟩
  unfold HAt
  rw [← hash_nil]
  exact At.new w _ _
theorem infoHash : (Tryd.prog.info? 47).map (·.size) = some 73 := by kernel_rfl
theorem hash_one (l : List UInt8) : ∀ v ∈ hashC l, v.oneCell' = true := by
  intro v hv
  unfold hashC at hv
  rcases List.mem_append.1 hv with h | h
  · exact U_one _ v h
  · rcases List.mem_append.1 h with h | h
    · exact B_one _ v h
    · simp at h; subst h; rfl
set_option maxRecDepth 100000 in
set_option maxHeartbeats 2000000 in
theorem Copy_any (g : Nat) (l : List UInt8) (w : World) (h : HAt w g l) : Calls Tryd.prog 24 #[.pointer (some ⟨g, 0, none⟩)] w fun e w' => e = .returned (.pointer (some ⟨w.heap.size, 0, none⟩)) ∧ Below w.heap.size w w' ∧ HAt w' w.heap.size l := by
  have hr := At.rng h
  have hl := hash_len l
  have h1 := hash_one l
  have HI := Lib.hid infoHash
  unfold HAt
  obtain ⟨CL, hCL⟩ : ∃ CL, hashC l = CL := ⟨_, rfl⟩
  rw [hCL] at hr hl h1 ⊢
  clear h hCL
  have hz := zero_hash
  have hzs := zc_size
  go_enter Tryd.func24, Tryd.ntmps24
  go_wp2_with (first
    | (refine wpList_load_mid rfl 47 _ rfl g 0 rfl CL _ hr Tryd.underlying47 rfl (by rw [hl]; exact HI.out) ?_)
    | (refine wpList_store_new w _ _ rfl 47 _ _ rfl CL rfl rfl (by rw [hl]; rfl) (by rw [hl]; exact HI.out) h1 (fun W2 hB2 hA2 hs2 => ?_)))
  go_ret
  exact ⟨rfl, hB2, hA2⟩
end Go.Proofs.YtfcmgodeehjnoaaDoor
