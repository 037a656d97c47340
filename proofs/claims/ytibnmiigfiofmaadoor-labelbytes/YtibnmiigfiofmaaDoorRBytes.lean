/- What Bytes of the reference answers, for every label of no category below nought. -/
import Derived.Test.YtibnmiigfiofmaaDoorNumber
namespace Go.Proofs.YtibnmiigfiofmaaDoor
open Go.RowKit Go.Sort

theorem div_more (a : Int) (j : Nat) : a / 2 ^ (8 * j) / 256 = a / 2 ^ (8 * (j + 1)) := by
  rw [Int.ediv_ediv_of_nonneg (Int.le_of_lt (Int.pow_pos (by decide))), Nat.mul_add, Int.pow_add]
  rfl
theorem div_next (a : Int) (j : Nat) (h0 : 0 ≤ a) (h1 : a ≤ 2305843009213693951) : wrap64 ((a / 2 ^ (8 * j)).tdiv 256) = a / 2 ^ (8 * (j + 1)) := by
  have hp : (0 : Int) < 2 ^ (8 * j) := Int.pow_pos (by decide)
  have hn : 0 ≤ a / 2 ^ (8 * j) := Int.ediv_nonneg h0 (Int.le_of_lt hp)
  have hl : a / 2 ^ (8 * j) ≤ a := Int.ediv_le_self _ h0
  rw [Int.tdiv_eq_ediv_of_nonneg hn, ← div_more]
  generalize a / 2 ^ (8 * j) = b at *
  exact wrap64_id (by omega) (by omega)
set_option maxRecDepth 100000 in
set_option maxHeartbeats 1000000 in
theorem rBytes_any (d : Int) (p : Option Addr) (cap : Nat) (xs : List (Int × Int)) (w : World) (hm : xs.length * 16 ≤ 140737488355328) (h0 : ∀ x ∈ xs, 0 ≤ x.1 ∧ x.1 ≤ 2305843009213693951) (hc : CatsAt w p xs) :
    Calls Tryd.prog 40 #[.agg #[.int .i64 d, .slice p xs.length cap]] w fun e w' => e = .returned (.string ⟨(toU (bytesI d xs.length xs)).toArray⟩) ∧ Below w.heap.size w w' := by
  obtain ⟨i0, hi, hz0, hz1, hz2⟩ := info_parts info5
  have hw1 : Below w.heap.size w ((w.alloc (.cells #[.int .i64 d, .slice p xs.length cap] 24)).alloc (.cells #[.int .u8 (d % 256), .int .u8 ((xs.length : Int) % 256)] 5)) := by go_grown
  have hl0 := World.ownsRow_lit (base := w.heap.size + 1) (e := 5) (size := 1) (w.alloc (.cells #[.int .i64 d, .slice p xs.length cap] 24)) #[.int .u8 (d % 256), .int .u8 ((xs.length : Int) % 256)] 2 (by simp) (by decide) rfl
  rw [World.size_alloc] at hl0
  go_enter Tryd.func40, Tryd.ntmps40
  go_wp2
  go_loopw [3, 19] (fun r i wr => ∃ k : Nat, k ≤ xs.length ∧ i = .int .i64 k ∧ wr.ownsRow (w.heap.size + 1) 5 1 r (bytesI d xs.length (xs.take k)).length (bcells (bytesI d xs.length (xs.take k))) ∧ Below w.heap.size w wr ∧ w.heap.size + 1 ≤ wr.heap.size) (fun _ i _ => xs.length - (intOf i).toNat)
  case atStart => exact ⟨0, Nat.zero_le _, rfl, hl0, hw1, by simp⟩
  case round =>
    obtain ⟨k, hk, rfl, hown, hB, hz⟩ := hrel
    obtain ⟨W1, rfl⟩ : ∃ W1, W1 = wr := ⟨wr, rfl⟩
    by_cases hlt : k < xs.length
    · obtain ⟨b, off, rfl, hbl, c0, c1⟩ := hc.get hB (Below.refl _ _) (Nat.le_refl _) k hlt
      clear hc hl0
      have HS : Hid (bytesI d xs.length (xs.take (k + 1)) = bytesI d xs.length (xs.take k) ++ entI xs[k]) := bytesI_snoc d _ xs k hlt
      have hlen := bytesI_len d xs.length xs k (by omega)
      have HL : Hid ((bytesI d xs.length (xs.take k)).length = 2 + k * 9) := hlen
      clear hlen
      go_wp2
      go_loopw [3, 6, 7] (fun r c i w2 => ∃ j : Nat, j ≤ 8 ∧ i = .int .i64 j ∧ c = .int .i64 (xs[k].1 / 2 ^ (8 * j)) ∧ w2.ownsRow (w.heap.size + 1) 5 1 r (bytesI d xs.length (xs.take k) ++ catI xs[k].1 j).length (bcells (bytesI d xs.length (xs.take k) ++ catI xs[k].1 j)) ∧ Below w.heap.size w w2 ∧ W1.heap.size + 1 ≤ w2.heap.size ∧ w2.heap[W1.heap.size]? = some (.cells #[.int .i64 xs[k].1, .int .i64 xs[k].2] 30 (0, 0))) (fun _ _ i _ => 8 - (intOf i).toNat)
      case atStart => exact ⟨0, by omega, rfl, by simp, by simp only [catI, List.range_zero, List.map_nil, List.append_nil]; exact hown.alloc _, by go_grown, by simp, World.alloc_heap_new _ _⟩
      case round =>
        obtain ⟨j, hj, rfl, rfl, hown2, hB2, hz2', hE⟩ := hrel
        have e0 : wr.cell? ⟨W1.heap.size, 0, none⟩ = some (.int .i64 xs[k].1) := by simp [World.cell?, hE]
        have e1 : wr.cell? ⟨W1.heap.size, 1, none⟩ = some (.int .i64 xs[k].2) := by simp [World.cell?, hE]
        have HE : Hid (wr.heap[W1.heap.size]? = some (.cells #[.int .i64 xs[k].1, .int .i64 xs[k].2] 30 (0, 0))) := hE
        clear hE
        by_cases hlt2 : j < 8
        · have hone := cell_one_new wr (.int .u8 (xs[k].1 / 2 ^ (8 * j) % 256)) 5
          have HO : Hid (∀ i u, [Value.int .u8 (xs[k].1 / 2 ^ (8 * j) % 256)][i]? = some u → (wr.alloc (.cells #[.int .u8 (xs[k].1 / 2 ^ (8 * j) % 256)] 5)).cell? ((⟨wr.heap.size, 0, none⟩ : Addr).add i) = some u) := hone
          clear hone
          have hownA := hown2.alloc (.cells #[.int .u8 (xs[k].1 / 2 ^ (8 * j) % 256)] 5)
          have hl2 : (bytesI d xs.length (xs.take k) ++ catI xs[k].1 j).length = 2 + k * 9 + j := by rw [List.length_append, HL.out]; simp [catI]
          have h63 : (bytesI d xs.length (xs.take k) ++ catI xs[k].1 j).length + 1 ≤ maxLen := by unfold maxLen; omega
          have hby : ((bytesI d xs.length (xs.take k) ++ catI xs[k].1 j).length + 1) * 1 ≤ 140737488355328 := by omega
          clear hl2
          have hbA : Below w.heap.size w (wr.alloc (.cells #[.int .u8 (xs[k].1 / 2 ^ (8 * j) % 256)] 5)) := hB2.alloc hB2.size _
          have hnn : 0 ≤ xs[k].1 / 2 ^ (8 * j) := Int.ediv_nonneg (h0 _ (List.getElem_mem hlt)).1 (Int.le_of_lt (Int.pow_pos (by decide)))
          go_wp2_with (at_builtin; refine wpList_append_own _ rfl _ _ 64 rfl (w.heap.size + 1) 5 i0 (.int .u8 0) 1 1 Tryd.underlying64 hi hz0 hz1 hz2 rfl (by decide) _ _ _ rfl hownA ⟨wr.heap.size, 0, none⟩ 1 1 [.int .u8 (xs[k].1 / 2 ^ (8 * j) % 256)] rfl rfl HO.out (fun x hx => by simp at hx; subst hx; rfl) h63 hby (by simp <;> omega) ?_; intro v' w3 hown' hgrow3 hnil3)
          have hB3 : Below w.heap.size w w3 := Below.grown hbA hgrow3 (by simp <;> have := hB2.size <;> omega) (fun g hg => by have := (hown2.lt g hg).1; omega)
          have blk : w3.heap[W1.heap.size]? = (wr.alloc (.cells #[.int .u8 (xs[k].1 / 2 ^ (8 * j) % 256)] 5)).heap[W1.heap.size]? := hgrow3.block _ (by simp <;> omega) (own_ne hown2 HE.out (by decide))
          have blk2 : w3.heap[W1.heap.size]? = wr.heap[W1.heap.size]? := blk.trans (Below.heap_alloc _ _ _ (by omega))
          go_roundw
          case rel =>
            refine ⟨j + 1, by omega, by go_num, ?_, ?_, hB3, by have := hgrow3.size; simp at this; omega, blk2.trans HE.out⟩
            · exact congrArg (Value.int .i64) (div_next _ j (h0 _ (List.getElem_mem hlt)).1 (h0 _ (List.getElem_mem hlt)).2)
            rw [catI_succ, ← List.append_assoc, List.length_append, bcells_snoc]
            exact hown'
          case measure => simp [intOf]; omega
        · obtain rfl : j = 8 := by omega
          have HO : Hid (∀ i u, [Value.int .u8 (xs[k].2 % 256)][i]? = some u → (wr.alloc (.cells #[.int .u8 (xs[k].2 % 256)] 5)).cell? ((⟨wr.heap.size, 0, none⟩ : Addr).add i) = some u) := cell_one_new wr (.int .u8 (xs[k].2 % 256)) 5
          have hownA := hown2.alloc (.cells #[.int .u8 (xs[k].2 % 256)] 5)
          have hl2 : (bytesI d xs.length (xs.take k) ++ catI xs[k].1 8).length = 2 + k * 9 + 8 := by rw [List.length_append, HL.out]; simp [catI]
          have h63 : (bytesI d xs.length (xs.take k) ++ catI xs[k].1 8).length + 1 ≤ maxLen := by unfold maxLen; omega
          have hby : ((bytesI d xs.length (xs.take k) ++ catI xs[k].1 8).length + 1) * 1 ≤ 140737488355328 := by omega
          clear hl2
          have hbA : Below w.heap.size w (wr.alloc (.cells #[.int .u8 (xs[k].2 % 256)] 5)) := hB2.alloc hB2.size _
          go_wp2_with (at_builtin; refine wpList_append_own _ rfl _ _ 64 rfl (w.heap.size + 1) 5 i0 (.int .u8 0) 1 1 Tryd.underlying64 hi hz0 hz1 hz2 rfl (by decide) _ _ _ rfl hownA ⟨wr.heap.size, 0, none⟩ 1 1 [.int .u8 (xs[k].2 % 256)] rfl rfl HO.out (fun x hx => by simp at hx; subst hx; rfl) h63 hby (by simp <;> omega) ?_; intro v' w3 hown' hgrow3 hnil3)
          have hB3 : Below w.heap.size w w3 := Below.grown hbA hgrow3 (by simp <;> have := hB2.size <;> omega) (fun g hg => by have := (hown2.lt g hg).1; omega)
          go_roundw
          case rel =>
            refine ⟨k + 1, by omega, by go_num, ?_, hB3, by have := hgrow3.size; simp at this; omega⟩
            rw [HS.out, entI, ← List.append_assoc, List.length_append, bcells_snoc]
            exact hown'
          case measure => simp [intOf]; omega
    · have hk' : xs.take k = xs := List.take_of_length_le (by omega)
      rw [hk'] at hown
      clear hk' hc hl0
      have hlU : (toU (bytesI d xs.length xs)).length = (bytesI d xs.length xs).length := by simp [toU]
      have hpos : 0 < (bytesI d xs.length xs).length := by simp [bytesI]
      rcases hown.2 with ⟨-, h0⟩ | ⟨g, cap', cur, rfl, -, -, -, -, -, -⟩
      · omega
      · have hcv := run_convert_bytes_back (P := Tryd.prog) W1 64 9 5 ⟨g, 0, none⟩ cap' (toU (bytesI d xs.length xs)) Tryd.underlying64 Tryd.underlying5 Tryd.underlying9 (fun j hj => hown.cells (g := g) rfl j _ (toU_get _ j hj))
        rw [hlU] at hcv
        clear hlU
        go_wp2
        go_ret
        exact ⟨rfl, hB⟩
end Go.Proofs.YtibnmiigfiofmaaDoor
