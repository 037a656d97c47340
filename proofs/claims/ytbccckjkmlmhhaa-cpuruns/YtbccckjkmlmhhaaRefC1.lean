/- The small functions of the reference: Put, value, Eight, Load. -/
import Derived.Test.YtbccckjkmlmhhaaLawB
import Derived.Test.YtbccckjkmlmhhaaLittle
import Derived.Laws.AppendOwn
namespace Go.Proofs.Ytbccckjkmlmhhaa
open Go.RowKit Go.Lib
theorem div_step (x : Int) (k : Nat) : x / 2 ^ (8 * k) / 256 = x / 2 ^ (8 * (k + 1)) := by
  rw [show 8 * (k + 1) = 8 * k + 8 from by omega, Int.pow_add, show (2 : Int) ^ 8 = 256 from by decide]
  exact Int.ediv_ediv_of_nonneg (Int.le_of_lt (Int.pow_pos (by decide)))
set_option maxRecDepth 100000 in
set_option maxHeartbeats 2000000 in
theorem Eight_any (x : Int) (w : World) (hx : 0 ≤ x) (hx2 : x < 18446744073709551616) : Calls Try.prog 40 #[.int .u64 x] w fun e w' => e = .returned (.string ⟨(eightR x 8).toArray⟩) ∧ Below w.heap.size w w' := by
  obtain ⟨i0, hi, hz0, hz1, hz2⟩ := info_parts byteInfo
  go_enter Try.func40, Try.ntmps40
  go_wp2_with fail
  have hO0 : (w.alloc (.cells #[] 5)).ownsRow w.heap.size 5 1 (.slice (some ⟨w.heap.size, 0, none⟩) 0 0) (eightR x 0).length (u8s (eightR x 0)) := World.ownsRow_lit (base := w.heap.size) (e := 5) (size := 1) w #[] 0 (Nat.le_refl _) (by decide) rfl
  have hB0 : Below w.heap.size w (w.alloc (.cells #[] 5)) := (Below.refl _ _).alloc (Nat.le_refl _) _
  go_loopw [0, 3, 4] (fun xv v iv wr => ∃ k : Nat, xv = .int .u64 (x / 2 ^ (8 * k)) ∧ iv = .int .i64 k ∧ k ≤ 8 ∧ wr.ownsRow w.heap.size 5 1 v (eightR x k).length (u8s (eightR x k)) ∧ Below w.heap.size w wr) (fun _ _ iv _ => 8 - (RowKit.intOf iv).toNat)
  case atStart => exact ⟨0, by simp, rfl, by omega, hO0, hB0⟩
  case round =>
    obtain ⟨k, rfl, rfl, hk, how, hbr⟩ := hrel
    have hz := hbr.size
    by_cases h1 : k < 8
    · have h1i : (k : Int) < 8 := by omega
      have hb1 := byteR_nat x k
      have hdv := div_step x k
      have hy0 : 0 ≤ x / 2 ^ (8 * k) := Int.ediv_nonneg hx (Int.le_of_lt (Int.pow_pos (by decide)))
      have hy1 : x / 2 ^ (8 * k) ≤ x := Int.ediv_le_self _ hx
      have HK := Lib.hid (show eightR x (k + 1) = eightR x k ++ [byteR x k] from by unfold eightR; rw [List.range_succ, List.map_append]; rfl)
      have hlen : (eightR x k).length = k := by simp [eightR]
      obtain ⟨y, hy⟩ : ∃ y, x / 2 ^ (8 * k) = y := ⟨_, rfl⟩
      obtain ⟨b, hb⟩ : ∃ b, byteR x k = b := ⟨_, rfl⟩
      rw [hy] at hb1 hdv hy0 hy1 ⊢
      rw [hb] at hb1 HK
      have hm0 : 0 ≤ y % 256 := Int.emod_nonneg _ (by decide)
      have hm1 : y % 256 < 256 := Int.emod_lt_of_pos _ (by decide)
      have hu8 : IntKind.u8.wrap (y % 256) = (b.toNat : Int) := by rw [← hb1]; rw [IntKind.wrap_u8]; omega
      have hq : (x / 2 ^ (8 * (k + 1))) = y / 256 := hdv.symm
      have HQ := Lib.hid hq
      have HOw := Lib.hid (how.alloc (.cells #[.int .u8 (b.toNat : Int)] 5))
      have HLt := Lib.hid how.lt
      have HN : Hid (∀ j u, [Value.int .u8 (b.toNat : Int)][j]? = some u → (wr.alloc (.cells #[.int .u8 (b.toNat : Int)] 5)).cell? ((⟨wr.heap.size, 0, none⟩ : Addr).add j) = some u) := fun j u hu => by
        match j, hu with
        | 0, hu => simp at hu; subst hu; simp [Addr.add, go_sem]
      have hzA : w.heap.size ≤ (wr.alloc (.cells #[.int .u8 (b.toNat : Int)] 5)).heap.size := by simp; omega
      have hbX : Below w.heap.size w (wr.alloc (.cells #[.int .u8 (b.toNat : Int)] 5)) := hbr.alloc hz _
      clear how hy hb hb1 hdv hq
      go_wp2_with (at_builtin; refine wpList_append_own _ rfl _ _ 31 rfl w.heap.size 5 i0 (.int .u8 0) 1 1 Try.underlying31 hi hz0 hz1 hz2 rfl (by decide) _ _ _ rfl HOw.out ⟨wr.heap.size, 0, none⟩ 1 1 [.int .u8 (b.toNat : Int)] rfl rfl HN.out (fun u hu => by simp at hu; subst hu; rfl) (by unfold maxLen; omega) (by omega) hzA ?_; intro v' w5 hown' hgrow5 hnil5; have HO := Lib.hid hown'; have HG := Lib.hid hgrow5; clear hown' hgrow5 hnil5)
      refine ⟨⟨k + 1, by rw [HQ.out], by go_num, by omega, ?_, Below.grown hbX HG.out hzA (fun j hj => (HLt.out j hj).1)⟩, ?_⟩
      · rw [HK.out, List.length_append, show u8s (eightR x k ++ [b]) = u8s (eightR x k) ++ [.int .u8 (b.toNat : Int)] from by simp [u8s]]
        exact HO.out
      · simp only [RowKit.intOf]; omega
    · obtain rfl : k = 8 := by omega
      have hkk : ¬ ((8 : Nat) : Int) < 8 := by omega
      have h8 : (eightR x 8).length = 8 := by simp [eightR]
      obtain ⟨g, c, rfl⟩ : ∃ g c, u3 = .slice (some ⟨g, 0, none⟩) 8 c := by
        rcases how.2 with ⟨_, h0⟩ | ⟨g, c, _, hv, _⟩
        · omega
        · exact ⟨g, c, by rw [hv, h8]⟩
      have hcl := how.cells (g := g) rfl
      have hcv := run_convert_bytes_back (P := Try.prog) wr 31 9 5 ⟨g, 0, none⟩ c (eightR x 8) Try.underlying31 Try.underlying5 Try.underlying9 (fun j hj => hcl j _ (by unfold u8s; rw [List.getElem?_map, List.getElem?_eq_getElem hj]; rfl))
      rw [h8] at hcv
      obtain ⟨S, hS⟩ : ∃ S, eightR x 8 = S := ⟨_, rfl⟩
      rw [hS] at hcv
      have HS := Lib.hid hS
      clear how hcl hO0 h8 hS
      go_wp2
      go_ret
      exact ⟨by rw [HS.out]; rfl, hbr⟩

theorem value_any (s : List UInt8) (w : World) (hs : s.length ≤ 8) : Calls Try.prog 42 #[.string ⟨s.toArray⟩] w fun e w' => e = .returned (.int .u64 (numL s : Nat)) ∧ w' = w := by
  obtain ⟨S, hS⟩ : ∃ S : ByteArray, (⟨s.toArray⟩ : ByteArray) = S := ⟨_, rfl⟩
  have hS8 : S.size = s.length := by rw [← hS]; show s.toArray.size = _; simp
  have hlt : ∀ k, numL (s.drop k) < 18446744073709551616 := fun k => by
    have h1 := numL_lt (s.drop k)
    have h2 : (2 : Nat) ^ (8 * (s.drop k).length) ≤ 2 ^ 64 := Nat.pow_le_pow_right (by decide) (by rw [List.length_drop]; omega)
    omega
  have hst : ∀ k (h : k < S.size), numL (s.drop k) = S[k].toNat + 256 * numL (s.drop (k + 1)) := fun k h => by
    have hk : k < s.length := by omega
    rw [List.drop_eq_getElem_cons hk]
    subst hS
    rfl
  rw [hS]
  clear hS
  go_enter Try.func42, Try.ntmps42
  go_wp2_with fail
  go_loopw [3, 4] (fun x i wr => ∃ k : Nat, x = .int .u64 (numL (s.drop k) : Nat) ∧ i = .int .i64 ((k : Int) - 1) ∧ k ≤ s.length ∧ wr = w) (fun _ i _ => (RowKit.intOf i + 1).toNat)
  case atStart => exact ⟨s.length, by rw [List.drop_of_length_le (Nat.le_refl _)]; rfl, rfl, Nat.le_refl _, rfl⟩
  case round =>
    obtain ⟨k, rfl, rfl, hk, rfl⟩ := hrel
    by_cases h0 : 0 < k
    · obtain ⟨m, rfl⟩ : ∃ m, k = m + 1 := ⟨k - 1, by omega⟩
      have hm : m < S.size := by omega
      have h1 := hst m hm
      have h2 := hlt m
      have h3 := UInt8.toNat_lt S[m]
      have hmi : (m : Int) < (S.size : Int) := by omega
      have HV := Lib.hid h1
      clear h1 hst hlt
      have hw : IntKind.u64.wrap (IntKind.u64.wrap ((numL (s.drop (m + 1)) : Int) * 256) + (S[m].toNat : Int)) = (numL (s.drop m) : Int) := by
        have h2' := h2; rw [HV.out] at h2' ⊢; rw [IntKind.wrap_u64, IntKind.wrap_u64]; omega
      have hw2 : IntKind.u64.wrap (S[m].toNat : Int) = (S[m].toNat : Int) := by rw [IntKind.wrap_u64]; omega
      generalize numL (s.drop (m + 1)) = q at *
      rw [show ((m + 1 : Nat) : Int) - 1 = (m : Int) from by omega]
      go_wp2
      exact ⟨⟨m, rfl, rfl, by omega, trivial⟩, by simp only [RowKit.intOf]; omega⟩
    · obtain rfl : k = 0 := by omega
      rw [List.drop_zero]
      go_wp2
      go_ret
      exact ⟨rfl, rfl⟩
theorem results_cell25 {fn : Func} {p : Tmp} (h : fn.results = #[.cell p 25]) (tmps : Array Value) (w : World) (g : Nat) (cs : Array Value) (hp : tmps.getD p undef = .pointer (some ⟨g, 0, none⟩)) (hg : w.heap[g]? = some (.cells cs 25 (0, 0))) (hi : cs.size = 17) : (results fn tmps).run Try.prog w = .ok (.agg cs) w :=
  results_cell_row h tmps w g 25 cs (0, 0) _ hp hg Try.underlying25 rfl (by rw [hi]; exact stInfo)
set_option maxRecDepth 100000 in
set_option maxHeartbeats 2000000 in
theorem Put_any (r : List Int) (pc : Int) (a : Nat) (x : Int) (w : World) (hr : r.length = 16) (ha : a < 16) : Calls Try.prog 41 #[.agg (stC r pc).toArray, .int .i64 a, .int .u64 x] w fun e w' => e = .returned (.agg (stC (r.set a x) pc).toArray) ∧ Below w.heap.size w w' := by
  obtain ⟨cs, hcs⟩ : ∃ cs, (stC r pc).toArray = cs := ⟨_, rfl⟩
  rw [hcs]
  obtain ⟨W, hW⟩ : ∃ W, (w.alloc (.cells cs 25)).alloc (.cells #[.int .u64 0, .int .u64 0, .int .u64 0, .int .u64 0, .int .u64 0, .int .u64 0, .int .u64 0, .int .u64 0, .int .u64 0, .int .u64 0, .int .u64 0, .int .u64 0, .int .u64 0, .int .u64 0, .int .u64 0, .int .u64 0, .int .u64 0] 25) = W := ⟨_, rfl⟩
  have hbW : Below w.heap.size w W := by rw [← hW]; go_grown
  have z1 : (w.alloc (.cells cs 25)).heap.size = w.heap.size + 1 := by simp
  have b0 : W.heap[w.heap.size]? = some (.cells cs 25 (0, 0)) := by
    rw [← hW]; exact (Lib.alloc_old _ _ _ (by simp)).trans (heap_new _ _)
  have b1 : W.heap[w.heap.size + 1]? = some (.cells #[.int .u64 0, .int .u64 0, .int .u64 0, .int .u64 0, .int .u64 0, .int .u64 0, .int .u64 0, .int .u64 0, .int .u64 0, .int .u64 0, .int .u64 0, .int .u64 0, .int .u64 0, .int .u64 0, .int .u64 0, .int .u64 0, .int .u64 0] 25 (0, 0)) := by
    rw [← hW, ← z1]; exact heap_new _ _
  have S0 : StAt W w.heap.size r pc := by unfold StAt; rw [hcs]; exact b0
  have c1 := S0.reg hr a ha
  have c2 := S0.froz a
  have c3 := S0.lt
  have S1 := S0.set hr a ha x
  have hai : (a : Int) < 16 := by omega
  obtain ⟨W1, hW1⟩ : ∃ W1, W.setCell ⟨w.heap.size, a, none⟩ (.int .u64 x) = W1 := ⟨_, rfl⟩
  have e1 := (heap_setCell_ne W ⟨w.heap.size, a, none⟩ (.int .u64 x) (show w.heap.size + 1 ≠ w.heap.size by omega)).trans b1
  have q1 := hbW.setCell (p := ⟨w.heap.size, a, none⟩) (Nat.le_refl _) (.int .u64 x)
  rw [hW1] at S1 e1 q1
  have hl2 : (r.set a x).length = 16 := by rw [List.length_set]; exact hr
  have e0 : W1.heap[w.heap.size]? = some (.cells (stC (r.set a x) pc).toArray 25 (0, 0)) := S1
  have hsz : (Try.prog.info? 25).map (·.size) = some (stC (r.set a x) pc).toArray.size := by rw [stC_size hl2]; exact stInfo
  have hone := stC_one (r.set a x) pc
  have HQ : Hid ((stC (r.set a x) pc).toArray.size = 17) := stC_size hl2
  have HEq : Hid ((stC (r.set a x) pc).toArray = (stC (r.set a x) pc).toArray) := rfl
  obtain ⟨cs2, hcs2⟩ : ∃ cs2, (stC (r.set a x) pc).toArray = cs2 := ⟨_, rfl⟩
  have HC2 := Lib.hid hcs2
  rw [hcs2] at e0 hsz hone HQ
  clear hcs2 S1 S0 b0 b1 hcs z1 HEq
  go_enter Try.func41, Try.ntmps41
  go_wp2_with (first
    | (refine wpList_load_row rfl 25 _ rfl w.heap.size rfl 25 _ (0, 0) _ e0 Try.underlying25 rfl hsz ?_)
    | (refine wpList_store_row rfl 25 _ _ rfl (w.heap.size + 1) cs2 rfl rfl 25 _ e1 hsz (by rw [HQ.out]; rfl) hone ?_))
  refine bodyPost_ret (results_cell25 Try.results41 _ _ (w.heap.size + 1) cs2 rfl (heap_setRow _ _ _ _ _ e1) HQ.out) rfl ⟨by rw [HC2.out], ?_⟩
  exact below_setRow q1 (by omega) cs2
end Go.Proofs.Ytbccckjkmlmhhaa
