/- What Unlike of the reference answers. -/
import Derived.Test.YtpedinpjdepjdaaRefW
namespace Go.Proofs.Ytpedinpjdepjdaa
open Go.RowKit
/-- Is the byte of number i unlike? -/
def unB (a b : List UInt8) (i : Nat) : Bool := decide (i < a.length) != decide (i < b.length) || (decide (i < a.length) && a.getD i 0 != b.getD i 0)
def unPK (a b : List UInt8) (p k : Nat) : Bool := (List.range k).any fun j => unB a b (64 * p + j)
def unPs (a b : List UInt8) (P : Nat) : List Nat := (List.range P).filter fun p => unPK a b p 64
theorem unPK_succ (a b : List UInt8) (p k : Nat) : unPK a b p (k + 1) = (unPK a b p k || unB a b (64 * p + k)) := by
  unfold unPK; rw [List.range_succ, List.any_append]; simp
theorem unPs_succ (a b : List UInt8) (P : Nat) : unPs a b (P + 1) = unPs a b P ++ (if unPK a b P 64 = true then [P] else []) := by
  unfold unPs; rw [List.range_succ, List.filter_append]
  by_cases h : unPK a b P 64 = true
  · simp [h]
  · have h' : unPK a b P 64 = false := by simpa using h
    simp [h']
def nvsR (L : List Nat) : List Value := L.map fun (n : Nat) => .int .i64 (n : Int)
theorem intInfoR : (Try.prog.info? 3).map (fun i => (i.zero, i.size, i.bytes)) = some (some (.int .i64 0), 1, 8) := by kernel_rfl
theorem cell_of {w W : World} {base : Nat} {sp : Option Addr} {cp : Nat} {d : List UInt8} (h : w.ownsRow base 5 1 (.slice sp d.length cp) d.length (u8s d)) (hW : Below w.heap.size w W) (j : Nat) (hj : j < d.length) : ∃ g, sp = some ⟨g, 0, none⟩ ∧ g < W.heap.size ∧ W.cell? ⟨g, j, none⟩ = some (.int .u8 (d[j].toNat : Int)) := by
  obtain ⟨g, rfl⟩ : ∃ g, sp = some ⟨g, 0, none⟩ := by
    rcases h.2 with ⟨hv, h0⟩ | ⟨g, cp', _, hv, _⟩
    · omega
    · simp only [Value.slice.injEq] at hv; exact ⟨g, hv.1⟩
  have hl := h.lt g rfl
  refine ⟨g, rfl, Nat.lt_of_lt_of_le hl.2 hW.size, ?_⟩
  rw [hW.cell (p := ⟨g, j, none⟩) hl.2, h.cellAt j (by omega)]
  unfold u8s; rw [List.getElem?_map, List.getElem?_eq_getElem hj]; rfl
theorem bdn {B : Nat} {w w' : World} (h : Below B w w') (n : Nat) : Below B w (w'.drewN n) := ⟨h.os, h.tape, h.output, h.size, h.block⟩
set_option maxRecDepth 100000 in
set_option maxHeartbeats 2000000 in
theorem refUnlike_any (ba bb : Nat) (va vb : Value) (a b : List UInt8) (w : World) (hoa : w.ownsRow ba 5 1 va a.length (u8s a)) (hob : w.ownsRow bb 5 1 vb b.length (u8s b)) :
    Calls Try.prog 12 #[va, vb] w fun e w' => ∃ v, e = .returned v ∧ w'.ownsRow w.heap.size 3 1 v (unPs a b 64).length (nvsR (unPs a b 64)) ∧ Below w.heap.size w w' := by
  obtain ⟨i0, hi, hz0, hz1, hz2⟩ := info_parts' intInfoR
  obtain ⟨sa, ca, rfl⟩ := own_form hoa
  obtain ⟨sb, cb, rfl⟩ := own_form hob
  go_enter Try.func12, Try.ntmps12
  go_wp2_with fail
  have hO0 : (w.alloc (.cells #[] 3)).ownsRow w.heap.size 3 1 (.slice (some ⟨w.heap.size, 0, none⟩) 0 0) (unPs a b 0).length (nvsR (unPs a b 0)) := World.ownsRow_lit (base := w.heap.size) (e := 3) (size := 1) w #[] 0 (Nat.le_refl _) (by decide) rfl
  have hB0 : Below w.heap.size w (w.alloc (.cells #[] 3)) := (Below.refl _ _).alloc (Nat.le_refl _) _
  have HCA : Hid (∀ W, Below w.heap.size w W → ∀ j (h : j < a.length), ∃ g, sa = some ⟨g, 0, none⟩ ∧ g < W.heap.size ∧ W.cell? ⟨g, j, none⟩ = some (.int .u8 (a[j].toNat : Int))) := fun W hW j h => cell_of hoa hW j h
  have HCB : Hid (∀ W, Below w.heap.size w W → ∀ j (h : j < b.length), ∃ g, sb = some ⟨g, 0, none⟩ ∧ g < W.heap.size ∧ W.cell? ⟨g, j, none⟩ = some (.int .u8 (b[j].toNat : Int))) := fun W hW j h => cell_of hob hW j h
  clear hoa hob
  go_loopw [5, 6] (fun v pv wr => ∃ P : Nat, pv = .int .i64 P ∧ P ≤ 64 ∧ wr.ownsRow w.heap.size 3 1 v (unPs a b P).length (nvsR (unPs a b P)) ∧ Below w.heap.size w wr) (fun _ pv _ => 64 - (intOf pv).toNat)
  case atStart => exact ⟨0, rfl, by omega, hO0, hB0⟩
  case round =>
    obtain ⟨P, rfl, hP, how, hbr⟩ := hrel
    have hz := hbr.size
    by_cases hP64 : P < 64
    · have hPi : (P : Int) < 64 := by omega
      have HOW := Lib.hid how
      clear how
      go_wp2_with fail
      go_loopw [7, 8] (fun uv iv wi => ∃ k : Nat, iv = .int .i64 ((64 * P + k : Nat) : Int) ∧ k ≤ 64 ∧ uv = .bool (unPK a b P k) ∧ Below wr.heap.size wr wi) (fun _ iv _ => (64 * P + 64) - (intOf iv).toNat)
      case atStart => exact ⟨0, by simp, by omega, rfl, Below.refl _ _⟩
      case round =>
        obtain ⟨k, rfl, hk, rfl, hbi⟩ := hrel
        have hzi := hbi.size
        have hBi := hbr.trans (hbi.mono hz)
        by_cases hk64 : k < 64
        · have HK := Lib.hid (unPK_succ a b P k)
          obtain ⟨I, hI⟩ : ∃ I, 64 * P + k = I := ⟨_, rfl⟩
          rw [hI] at HK ⊢
          have hIl : (I : Int) < 64 * (P : Int) + 64 := by omega
          have hI0 : (0 : Int) ≤ (I : Int) := by omega
          have hIb : I < 4096 := by omega
          have HI := Lib.hid (show 64 * P + (k + 1) = I + 1 from by omega)
          have hIm : (I : Int) + 1 = ((64 * P + (k + 1) : Nat) : Int) := by omega
          have HIm := Lib.hid hIm
          have hIk : (64 * (P : Int) + 64 - ((I : Int) + 1)).toNat < (64 * (P : Int) + 64 - (I : Int)).toNat := by omega
          clear hI hIm
          by_cases hla : I < a.length
          · have hlai : (I : Int) < (a.length : Int) := by omega
            have hda : decide (I < a.length) = true := by simpa using hla
            obtain ⟨ga, rfl, hga, ca'⟩ := HCA.out _ hBi I hla
            by_cases hlb : I < b.length
            · have hlbi : (I : Int) < (b.length : Int) := by omega
              have hdb : decide (I < b.length) = true := by simpa using hlb
              obtain ⟨gb, rfl, hgb, cb'⟩ := HCB.out _ hBi I hlb
              by_cases hab : a[I] = b[I]
              · have HU := Lib.hid (show unB a b I = false from by unfold unB; simp [hla, hlb, List.getD_eq_getElem?_getD, hab])
                have hne : ((a[I].toNat : Int) == (b[I].toNat : Int)) = true := by simp [hab]
                have hne2 : ((a[I].toNat : Int) != (b[I].toNat : Int)) = false := by simp [hab]
                rw [hab] at ca'
                clear hab
                go_wp2_with fail
                go_quiet (fail)
                go_wp2
                refine ⟨⟨k + 1, by rw [HI.out]; push_cast; rfl, by omega, by rw [HK.out, HU.out]; simp, bdn hbi _⟩, ?_⟩
                simp only [intOf]; omega
              · have HU := Lib.hid (show unB a b I = true from by unfold unB; simp [hla, hlb, List.getD_eq_getElem?_getD, hab])
                have hnn : ¬ (a[I].toNat = b[I].toNat) := fun h => hab (UInt8.toNat_inj.1 h)
                have hne2 : ((a[I].toNat : Int) == (b[I].toNat : Int)) = false := beq_eq_false_iff_ne.2 (fun h => hnn (by omega))
                have hne3 : (a[I] == b[I]) = false := by simpa using hab
                go_wp2_with fail
                go_quiet (fail)
                go_wp2
                refine ⟨⟨k + 1, by rw [HI.out]; push_cast; rfl, by omega, by rw [HK.out, HU.out]; simp, bdn hbi _⟩, ?_⟩
                simp only [intOf]; omega
            · have hlbi : ¬ (I : Int) < (b.length : Int) := by omega
              have hdb : decide (I < b.length) = false := by simpa using hlb
              have HU := Lib.hid (show unB a b I = true from by unfold unB; simp [hla, hlb])
              go_wp2_with fail
              go_quiet (fail)
              go_wp2
              refine ⟨⟨k + 1, by rw [HI.out]; push_cast; rfl, by omega, by rw [HK.out, HU.out]; simp, bdn hbi _⟩, ?_⟩
              simp only [intOf]; omega
          · have hlai : ¬ (I : Int) < (a.length : Int) := by omega
            have hda : decide (I < a.length) = false := by simpa using hla
            by_cases hlb : I < b.length
            · have hlbi : (I : Int) < (b.length : Int) := by omega
              have hdb : decide (I < b.length) = true := by simpa using hlb
              have HU := Lib.hid (show unB a b I = true from by unfold unB; simp [hla, hlb])
              go_wp2_with fail
              go_quiet (fail)
              go_wp2
              refine ⟨⟨k + 1, by rw [HI.out]; push_cast; rfl, by omega, by rw [HK.out, HU.out]; simp, bdn hbi _⟩, ?_⟩
              simp only [intOf]; omega
            · have hlbi : ¬ (I : Int) < (b.length : Int) := by omega
              have hdb : decide (I < b.length) = false := by simpa using hlb
              have HU := Lib.hid (show unB a b I = false from by unfold unB; simp [hla, hlb])
              go_wp2_with fail
              go_quiet (fail)
              go_wp2
              refine ⟨⟨k + 1, by rw [HI.out]; push_cast; rfl, by omega, by rw [HK.out, HU.out]; simp, bdn hbi _⟩, ?_⟩
              simp only [intOf]; omega
        · obtain rfl : k = 64 := by omega
          have hkk : ¬ ((64 * P + 64 : Nat) : Int) < 64 * (P : Int) + 64 := by omega
          have HK := Lib.hid (unPs_succ a b P)
          have HLn : Hid ((unPs a b P).length ≤ P) := by
            refine Lib.hid ?_
            unfold unPs
            exact Nat.le_trans (List.length_filter_le _ _) (by simp)
          by_cases hu : unPK a b P 64 = true
          · rw [hu]
            rw [if_pos hu] at HK
            have how := row_below HOW.out hbi
            have hzB := hBi.size
            have HOw := Lib.hid (how.alloc (.cells #[.int .i64 (P : Int)] 3))
            have HLt := Lib.hid how.lt
            have HN : Hid (∀ j u, [Value.int .i64 (P : Int)][j]? = some u → (wr.alloc (.cells #[.int .i64 (P : Int)] 3)).cell? ((⟨wr.heap.size, 0, none⟩ : Addr).add j) = some u) := fun j u hu => by
              match j, hu with
              | 0, hu => simp at hu; subst hu; simp [Addr.add, go_sem]
            have hzA : w.heap.size ≤ (wr.alloc (.cells #[.int .i64 (P : Int)] 3)).heap.size := by simp; omega
            have hbX : Below w.heap.size w (wr.alloc (.cells #[.int .i64 (P : Int)] 3)) := hBi.alloc hzB _
            clear how
            go_wp2_with (at_builtin; refine wpList_append_own _ rfl _ _ 42 rfl w.heap.size 3 i0 (.int .i64 0) 1 8 Try.underlying42 hi hz0 hz1 hz2 rfl (by decide) _ _ _ rfl HOw.out ⟨wr.heap.size, 0, none⟩ 1 1 [.int .i64 (P : Int)] rfl rfl HN.out (fun u hu => by simp at hu; subst hu; rfl) (by have := HLn.out; unfold maxLen; omega) (by have := HLn.out; omega) hzA ?_; intro v' w5 hown' hgrow5 hnil5; have HO := Lib.hid hown'; have HG := Lib.hid hgrow5; clear hown' hgrow5 hnil5)
            refine ⟨⟨P + 1, by go_num, by omega, ?_, Below.grown hbX HG.out hzA (fun j hj => (HLt.out j hj).1)⟩, ?_⟩
            · rw [HK.out, List.length_append, show nvsR (unPs a b P ++ [P]) = nvsR (unPs a b P) ++ [.int .i64 (P : Int)] from by simp [nvsR]]
              exact HO.out
            · simp only [intOf]; omega
          · have hu' : unPK a b P 64 = false := by simpa using hu
            rw [hu']
            rw [if_neg hu, List.append_nil] at HK
            go_wp2
            refine ⟨⟨P + 1, by go_num, by omega, ?_, hBi⟩, ?_⟩
            · rw [HK.out]
              exact row_below HOW.out hbi
            · simp only [intOf]; omega
    · obtain rfl : P = 64 := by omega
      have hPi : ¬ ((64 : Nat) : Int) < 64 := by omega
      go_wp2
      go_ret
      exact ⟨_, rfl, how, hbr⟩
end Go.Proofs.Ytpedinpjdepjdaa
