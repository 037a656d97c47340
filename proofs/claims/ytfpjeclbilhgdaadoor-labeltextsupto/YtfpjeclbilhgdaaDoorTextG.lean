/- What Text of package label answers, for every right label. -/
import Derived.Test.YtfpjeclbilhgdaaDoorText
import Derived.Test.YtfpjeclbilhgdaaDoorDigits
namespace Go.Proofs.YtfpjeclbilhgdaaDoor
open Go.RowKit Go.Sort

/-- A label's text but for its end. -/
def prT (d : Int) (xs : List (Int × Int)) : List UInt8 := [123, sgL d] ++ xs.flatMap fun x => 32 :: enW x
theorem prT_snoc (d : Int) (xs : List (Int × Int)) (k : Nat) (h : k < xs.length) : prT d (xs.take (k + 1)) = prT d (xs.take k) ++ [32] ++ Lib.decDigits xs[k].1.toNat ++ [58, sgL xs[k].2] := by
  unfold prT
  rw [List.take_succ_eq_append_getElem h, List.flatMap_append]
  simp [enW]
theorem jn_flat (v : List UInt8) : ∀ ws : List (List UInt8), jn32 (v :: ws) = v ++ ws.flatMap fun u => 32 :: u
  | [] => by simp [jn32]
  | u :: us => by rw [jn32_cons v (by simp), jn_flat u us]; simp
theorem lbT_pr (d : Int) (xs : List (Int × Int)) : lbT d xs = prT d xs ++ [125] := by
  unfold lbT prT
  rw [jn_flat, List.flatMap_map]
  simp
theorem prT_len (d : Int) (xs : List (Int × Int)) (k : Nat) (hk : k ≤ xs.length) (h : ∀ x ∈ xs, x.1 ≤ 2305843009213693951) : (prT d (xs.take k)).length ≤ 2 + k * 23 := by
  induction k with
  | zero => simp [prT]
  | succ k ih =>
    have hlt : k < xs.length := hk
    rw [prT_snoc d xs k hlt]
    have h1 := ih (by omega)
    have h2 := h _ (List.getElem_mem hlt)
    have h3 := nDig_le xs[k].1.toNat (by omega)
    simp only [List.length_append, Lib.decDigits_length, List.length_cons, List.length_nil]
    omega
theorem sgn_sg (l : Int) (h0 : 0 ≤ l) (h1 : l ≤ 5) : sgn l = ((sgL l).toNat : Int) := by
  rcases (show l = 0 ∨ l = 1 ∨ l = 2 ∨ l = 3 ∨ l = 4 ∨ l = 5 by omega) with rfl | rfl | rfl | rfl | rfl | rfl <;> rfl
theorem br_two (w : World) (a b : UInt8) (t : TypeId) : BR (w.alloc (.cells #[.int .u8 (a.toNat : Int), .int .u8 (b.toNat : Int)] t)) w.heap.size (.slice (some ⟨w.heap.size, 0, none⟩) 2 2) [a, b] := by
  refine ⟨w.heap.size, 2, rfl, Nat.le_refl _, by simp, by simp, by decide, fun j hj => ?_, fun j hj => ?_⟩
  · have : j = 0 ∨ j = 1 := by simp at hj; omega
    rcases this with rfl | rfl <;> simp [World.cell?_alloc_new]
  · have : j = 0 ∨ j = 1 := by omega
    rcases this with rfl | rfl <;> exact ⟨by simp [World.cell?_alloc_new], World.frozen?_alloc_new w _ t _⟩
theorem src_new (w : World) (l : List UInt8) (n : Nat) (hn : n = l.length) : Src Tryd.prog 1 39 (.slice (some ⟨w.heap.size, 0, none⟩) n n) l.length (bc l) (w.alloc (.cells (bc l).toArray 5)) := by
  subst hn
  refine Src.ofSlice (P := Tryd.prog) (w := w.alloc (.cells (bc l).toArray 5)) (size := 1) Tryd.underlying39 ⟨w.heap.size, 0, none⟩ l.length l.length (bc l) (by rw [bc_len, Nat.mul_one]) (fun j u hu => ?_) (by intro u' hu'; simp only [bc, List.mem_map] at hu'; obtain ⟨b, _, rfl⟩ := hu'; rfl)
  rw [addr_add0, World.cell?_alloc_new]
  simpa using hu

set_option maxRecDepth 100000 in
set_option maxHeartbeats 4000000 in
theorem TextG_any (d : Int) (p : Option Addr) (cap : Nat) (xs : List (Int × Int)) (w : World) (hE : Env w) (hd : 0 ≤ d ∧ d ≤ 5) (hn : xs.length ≤ 16) (hx : ∀ x ∈ xs, 1 ≤ x.1 ∧ x.1 ≤ 2305843009213693951 ∧ 0 ≤ x.2 ∧ x.2 ≤ 5) (hc : CatsAt w p xs) :
    Calls Tryd.prog 6 #[.agg #[.int .i64 d, .slice p xs.length cap]] w fun e w' => e = .returned (.string ⟨(lbT d xs).toArray⟩) ∧ Below w.heap.size w w' := by
  obtain ⟨i0, hi, hz0, hz1, hz2⟩ := info_parts info5
  have hw1 : Below w.heap.size w ((w.alloc (.cells #[.int .i64 d, .slice p xs.length cap] 24)).alloc (.cells #[.int .u8 123, .int .u8 (sgn d)] 5)) := by go_grown
  have hl0 : BR ((w.alloc (.cells #[.int .i64 d, .slice p xs.length cap] 24)).alloc (.cells #[.int .u8 123, .int .u8 (sgn d)] 5)) (w.heap.size + 1) (.slice (some ⟨w.heap.size + 1, 0, none⟩) 2 2) (prT d (xs.take 0)) := by
    have := br_two (w.alloc (.cells #[.int .i64 d, .slice p xs.length cap] 24)) 123 (sgL d) 5
    rw [World.size_alloc, ← sgn_sg d hd.1 hd.2] at this
    simpa [prT] using this
  have HX := Lib.hid hx
  have HP := Lib.hid (prT_len d xs)
  have HE := Lib.hid hE
  clear hx hE
  go_enter Tryd.func6, Tryd.ntmps6
  go_wp2_with (go_at_call 14; refine (sign_any _ _).mono ?_; rintro e w' ⟨rfl, rfl⟩)
  go_loopw [3, 13] (fun r i wr => ∃ k : Nat, k ≤ xs.length ∧ i = .int .i64 k ∧ BR wr (w.heap.size + 1) r (prT d (xs.take k)) ∧ Below w.heap.size w wr ∧ w.heap.size + 1 ≤ wr.heap.size) (fun _ i _ => xs.length - (intOf i).toNat)
  case atStart => exact ⟨0, Nat.zero_le _, rfl, hl0, hw1, by simp⟩
  case round =>
    obtain ⟨k, hk, rfl, hown, hB, hz⟩ := hrel
    obtain ⟨W1, rfl⟩ : ∃ W1, W1 = wr := ⟨wr, rfl⟩
    have hlen := HP.out k hk (fun x hx => (HX.out x hx).2.1)
    by_cases hlt : k < xs.length
    · obtain ⟨b, off, rfl, hbl, c0, c1⟩ := hc.get hB (Below.refl _ _) (Nat.le_refl _) k hlt
      clear hc hl0
      have HS := Lib.hid (prT_snoc d xs k hlt)
      have hxk := HX.out xs[k] (List.getElem_mem hlt)
      have hdk := nDig_le xs[k].1.toNat (by omega)
      have HSg := Lib.hid (sgn_sg xs[k].2 hxk.2.2.1 hxk.2.2.2)
      have HIt : Hid (Lib.itoa xs[k].1 = Lib.decDigits xs[k].1.toNat) := by simp only [Hid]; unfold Lib.itoa; rw [if_neg (by omega)]
      obtain ⟨WA, hWA⟩ : ∃ WA, W1.alloc (.cells #[.int .i64 xs[k].1, .int .i64 xs[k].2] 35) = WA := ⟨_, rfl⟩
      have hzA : WA.heap.size = W1.heap.size + 1 := by rw [← hWA]; simp
      have hbA1 : Below W1.heap.size W1 WA := by rw [← hWA]; exact (Below.refl _ _).alloc (Nat.le_refl _) _
      have HO : Hid (Src Tryd.prog 1 39 (.slice (some ⟨W1.heap.size + 1, 0, none⟩) 1 1) [(32 : UInt8)].length (bc [32]) (WA.alloc (.cells #[.int .u8 32] 5))) := by
        have := src_new WA [32] 1 rfl
        rw [hzA] at this; exact this
      have hbA2 : Below W1.heap.size W1 (WA.alloc (.cells #[.int .u8 32] 5)) := hbA1.alloc hbA1.size _
      have hownA := hown.below hbA2
      have hEA : Hid ((WA.alloc (.cells #[.int .u8 32] 5)).heap[W1.heap.size]? = some (.cells #[.int .i64 xs[k].1, .int .i64 xs[k].2] 35 (0, 0))) := by
        refine (Below.heap_alloc WA _ _ (by omega)).trans ?_
        rw [← hWA]; exact World.alloc_heap_new _ _
      have hzB : (WA.alloc (.cells #[.int .u8 32] 5)).heap.size = W1.heap.size + 2 := by simp; omega
      go_wp2_with (at_builtin; refine Hid.out ?_)
      refine Lib.hid ?_
      refine wpList_append_br rfl _ _ 39 39 rfl 5 i0 Tryd.underlying39 hi hz0 hz1 hz2 (w.heap.size + 1) u3 (prT d (xs.take k)) [32] rfl hownA (.slice (some ⟨W1.heap.size + 1, 0, none⟩) 1 1) rfl HO.out (by simp; omega) (by omega) ?_
      intro v2 w2 r1 r2 r3 r4
      have hne : some W1.heap.size ≠ v2.ownBlock := by
        obtain ⟨g, e, _, hg⟩ := hown.own
        exact (r3 W1.heap.size (by omega) (by rw [e]; simp; omega)).2
      have hE2 : w2.heap[W1.heap.size]? = some (.cells #[.int .i64 xs[k].1, .int .i64 xs[k].2] 35 (0, 0)) := by
        obtain ⟨g, e, _, hg⟩ := hown.own
        exact (r3 W1.heap.size (by omega) (by rw [e]; simp; omega)).1.trans hEA.out
      have hB2 : Below w.heap.size w w2 := (hB.trans (hbA2.mono hB.size)).trans (r2.mono (by omega))
      have e0 : w2.cell? ⟨W1.heap.size, 0, none⟩ = some (.int .i64 xs[k].1) := by simp [World.cell?, hE2]
      have hC := AppendInt_br xs[k].1 (w.heap.size + 1) (by omega) (by omega) v2 _ w2 r1 (by omega) (by simp; omega) (fun w' h => HE.out.keep (hB2.trans (h.mono (by omega))) HE.out.big |>.pow)
      rw [HIt.out] at hC
      have HE2 := Lib.hid hE2
      clear hE2 hownA HO r3 hEA hown hWA c0 c1
      go_wp2_with (go_at_call 15; refine hC.mono ?_; rintro e w3 ⟨v3, rfl, s1, s2, s3, s4⟩; refine Hid.out ?_)
      refine Lib.hid ?_
      clear hC
      obtain ⟨s5, s6⟩ := s3 W1.heap.size (by omega) hne
      have e1 : w3.cell? ⟨W1.heap.size, 1, none⟩ = some (.int .i64 xs[k].2) := by simp [World.cell?, s5.trans HE2.out]
      have hB3 : Below w.heap.size w w3 := hB2.trans (s2.mono (by omega))
      have HO3 : Hid (Src Tryd.prog 1 39 (.slice (some ⟨w3.heap.size, 0, none⟩) 2 2) [58, sgL xs[k].2].length (bc [58, sgL xs[k].2]) (w3.alloc (.cells #[.int .u8 58, .int .u8 (sgn xs[k].2)] 5))) := by
        have := src_new w3 [58, sgL xs[k].2] 2 rfl
        simp only [Hid]; rw [HSg.out]; exact this
      have hbB : Below w3.heap.size w3 (w3.alloc (.cells #[.int .u8 58, .int .u8 (sgn xs[k].2)] 5)) := (Below.refl _ _).alloc (Nat.le_refl _) _
      have hownB := s1.below hbB
      have hl4 : (prT d (xs.take k) ++ [32] ++ Lib.decDigits xs[k].1.toNat).length + [58, sgL xs[k].2].length ≤ 140737488355328 := by simp only [List.length_append, Lib.decDigits_length, List.length_cons, List.length_nil]; omega
      have hz4 : w.heap.size + 1 ≤ (w3.alloc (.cells #[.int .u8 58, .int .u8 (sgn xs[k].2)] 5)).heap.size := by simp; omega
      clear s5 s6 s3 e0 s1
      have HG := Lib.hid (sign_any xs[k].2)
      go_wp2_with (first
        | (go_at_call 14; refine (HG.out _).mono ?_; rintro e w' ⟨rfl, hw'⟩; rw [hw']; clear hw' w')
        | (at_builtin; refine Hid.out ?_))
      refine Lib.hid ?_
      refine wpList_append_br rfl _ _ 39 39 rfl 5 i0 Tryd.underlying39 hi hz0 hz1 hz2 (w.heap.size + 1) v3 (prT d (xs.take k) ++ [32] ++ Lib.decDigits xs[k].1.toNat) [58, sgL xs[k].2] rfl hownB (.slice (some ⟨w3.heap.size, 0, none⟩) 2 2) rfl HO3.out hl4 hz4 ?_
      intro v4 w4 t1 t2 t3 t4
      clear hownB HO3
      go_wp2
      go_roundw
      case rel => exact ⟨k + 1, by omega, by go_num, by rw [HS.out]; exact t1, (hB3.trans (hbB.mono hB3.size)).trans (t2.mono (by omega)), by omega⟩
      case measure => simp [intOf]; omega
    · have hk' : xs.take k = xs := List.take_of_length_le (by omega)
      rw [hk'] at hown hlen
      clear hk' hc hl0
      have HO : Hid (Src Tryd.prog 1 39 (.slice (some ⟨W1.heap.size, 0, none⟩) 1 1) [(125 : UInt8)].length (bc [125]) (W1.alloc (.cells #[.int .u8 125] 5))) := src_new W1 [125] 1 rfl
      have hbA2 : Below W1.heap.size W1 (W1.alloc (.cells #[.int .u8 125] 5)) := (Below.refl _ _).alloc (Nat.le_refl _) _
      have hownA := hown.below hbA2
      have hz4 : w.heap.size + 1 ≤ (W1.alloc (.cells #[.int .u8 125] 5)).heap.size := by simp; omega
      go_wp2_with (at_builtin; refine Hid.out ?_)
      refine Lib.hid ?_
      refine wpList_append_br rfl _ _ 39 39 rfl 5 i0 Tryd.underlying39 hi hz0 hz1 hz2 (w.heap.size + 1) u3 (prT d xs) [125] rfl hownA (.slice (some ⟨W1.heap.size, 0, none⟩) 1 1) rfl HO.out (by simp; omega) hz4 ?_
      intro v2 w2 r1 r2 r3 r4
      have hB2 : Below w.heap.size w w2 := (hB.trans (hbA2.mono hB.size)).trans (r2.mono (by omega))
      rw [← lbT_pr] at r1
      obtain ⟨g, cap', rfl, _, _, _, _, h5, _⟩ := r1
      have hcv := run_convert_bytes_back (P := Tryd.prog) w2 39 9 5 ⟨g, 0, none⟩ cap' (lbT d xs) Tryd.underlying39 Tryd.underlying5 Tryd.underlying9 (fun j hj => by rw [addr_add0]; exact h5 j hj)
      clear hownA hown h5 r3
      go_wp2
      go_ret
      exact ⟨rfl, hB2⟩
end Go.Proofs.YtfpjeclbilhgdaaDoor
