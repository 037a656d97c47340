/- What Eight of the reference answers. -/
import Derived.Test.YthifejdphflfpaaDoorEnc
namespace Go.Proofs.YthifejdphflfpaaDoor
open Go.RowKit Go.Sort
theorem div_step (x : Int) (k : Nat) : x / 2 ^ (8 * k) / 256 = x / 2 ^ (8 * (k + 1)) := by
  rw [show 8 * (k + 1) = 8 * k + 8 from by omega, Int.pow_add, show (2 : Int) ^ 8 = 256 from by decide]
  exact Int.ediv_ediv_of_nonneg (Int.le_of_lt (Int.pow_pos (by decide)))
set_option maxRecDepth 100000 in
set_option maxHeartbeats 2000000 in
theorem Eight_any (x : Int) (w : World) (hx : 0 ≤ x) (hx2 : x < 18446744073709551616) : Calls Tryd.prog 34 #[.int .u64 x] w fun e w' => e = .returned (.string ⟨(numK x 8).toArray⟩) ∧ Below w.heap.size w w' := by
  obtain ⟨i0, hi, hz0, hz1, hz2⟩ := info_parts' byteInfo
  go_enter Tryd.func34, Tryd.ntmps34
  go_wp2_with fail
  have hO0 : (w.alloc (.cells #[] 5)).ownsRow w.heap.size 5 1 (.slice (some ⟨w.heap.size, 0, none⟩) 0 0) (numK x 0).length (u8s (numK x 0)) := World.ownsRow_lit (base := w.heap.size) (e := 5) (size := 1) w #[] 0 (Nat.le_refl _) (by decide) rfl
  have hB0 : Below w.heap.size w (w.alloc (.cells #[] 5)) := (Below.refl _ _).alloc (Nat.le_refl _) _
  go_loopw [0, 3, 4] (fun xv v iv wr => ∃ k : Nat, xv = .int .u64 (x / 2 ^ (8 * k)) ∧ iv = .int .i64 k ∧ k ≤ 8 ∧ wr.ownsRow w.heap.size 5 1 v (numK x k).length (u8s (numK x k)) ∧ Below w.heap.size w wr) (fun _ _ iv _ => 8 - (intOf iv).toNat)
  case atStart => exact ⟨0, by simp, rfl, by omega, hO0, hB0⟩
  case round =>
    obtain ⟨k, rfl, rfl, hk, how, hbr⟩ := hrel
    have hz := hbr.size
    by_cases h1 : k < 8
    · have h1i : (k : Int) < 8 := by omega
      have hb1 := bU_val (x / 2 ^ (8 * k))
      have hdv := div_step x k
      have hy0 : 0 ≤ x / 2 ^ (8 * k) := Int.ediv_nonneg hx (Int.le_of_lt (Int.pow_pos (by decide)))
      have hy1 : x / 2 ^ (8 * k) ≤ x := Int.ediv_le_self _ hx
      have HK := Lib.hid (show numK x (k + 1) = numK x k ++ [bU (x / 2 ^ (8 * k))] from by unfold numK; rw [List.range_succ, List.map_append]; rfl)
      have hlen : (numK x k).length = k := by simp [numK]
      obtain ⟨y, hy⟩ : ∃ y, x / 2 ^ (8 * k) = y := ⟨_, rfl⟩
      obtain ⟨b, hb⟩ : ∃ b, bU (x / 2 ^ (8 * k)) = b := ⟨_, rfl⟩
      rw [hb] at hb1 HK
      rw [hy] at hb1 hdv hy0 hy1 ⊢
      have hm0 : 0 ≤ y % 256 := Int.emod_nonneg _ (by decide)
      have hm1 : y % 256 < 256 := Int.emod_lt_of_pos _ (by decide)
      have hu8 : IntKind.u8.wrap (y % 256) = (b.toNat : Int) := by rw [← hb1]; rw [IntKind.wrap_u8]; omega
      have hq : (x / 2 ^ (8 * (k + 1))) = y / 256 := hdv.symm
      have HQ := Lib.hid hq
      have HOw := Lib.hid (how.alloc (.cells #[.int .u8 (b.toNat : Int)] 5))
      have HLt := Lib.hid how.lt
      have HN : Hid (∀ j u, [Value.int .u8 (b.toNat : Int)][j]? = some u → (wr.alloc (.cells #[.int .u8 (b.toNat : Int)] 5)).cell? ((⟨wr.heap.size, 0, none⟩ : Addr).add j) = some u) := fun j u hu => by
        match j, hu with
        | 0, hu => simp at hu; subst hu; simp [Addr.add, go_sem]
      have hzA : w.heap.size ≤ (wr.alloc (.cells #[.int .u8 (b.toNat : Int)] 5)).heap.size := by simp; omega
      have hbX : Below w.heap.size w (wr.alloc (.cells #[.int .u8 (b.toNat : Int)] 5)) := hbr.alloc hz _
      clear how hy hb hb1 hdv hq
      go_wp2_with (at_builtin; refine wpList_append_own _ rfl _ _ 51 rfl w.heap.size 5 i0 (.int .u8 0) 1 1 Tryd.underlying51 hi hz0 hz1 hz2 rfl (by decide) _ _ _ rfl HOw.out ⟨wr.heap.size, 0, none⟩ 1 1 [.int .u8 (b.toNat : Int)] rfl rfl HN.out (fun u hu => by simp at hu; subst hu; rfl) (by unfold maxLen; omega) (by omega) hzA ?_; intro v' w5 hown' hgrow5 hnil5; have HO := Lib.hid hown'; have HG := Lib.hid hgrow5; clear hown' hgrow5 hnil5)
      refine ⟨⟨k + 1, by rw [HQ.out], by go_num, by omega, ?_, Below.grown hbX HG.out hzA (fun j hj => (HLt.out j hj).1)⟩, ?_⟩
      · rw [HK.out, List.length_append, show u8s (numK x k ++ [b]) = u8s (numK x k) ++ [.int .u8 (b.toNat : Int)] from by simp [u8s]]
        exact HO.out
      · simp only [intOf]; omega
    · obtain rfl : k = 8 := by omega
      have hkk : ¬ ((8 : Nat) : Int) < 8 := by omega
      have h8 : (numK x 8).length = 8 := by simp [numK]
      obtain ⟨g, c, rfl⟩ : ∃ g c, u3 = .slice (some ⟨g, 0, none⟩) 8 c := by
        rcases how.2 with ⟨_, h0⟩ | ⟨g, c, _, hv, _⟩
        · omega
        · exact ⟨g, c, by rw [hv, h8]⟩
      have hcl := how.cells (g := g) rfl
      have hcv := run_convert_bytes_back (P := Tryd.prog) wr 51 9 5 ⟨g, 0, none⟩ c (numK x 8) Tryd.underlying51 Tryd.underlying5 Tryd.underlying9 (fun j hj => hcl j _ (by unfold u8s; rw [List.getElem?_map, List.getElem?_eq_getElem hj]; rfl))
      rw [h8] at hcv
      obtain ⟨S, hS⟩ : ∃ S, numK x 8 = S := ⟨_, rfl⟩
      rw [hS] at hcv
      have HS := Lib.hid hS
      clear how hcl hO0 h8 hS
      go_wp2
      go_ret
      exact ⟨by rw [HS.out]; rfl, hbr⟩
end Go.Proofs.YthifejdphflfpaaDoor
