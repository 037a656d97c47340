/- CpuReckons answers true. -/
import Derived.Test.YtbccckjkmlmhhaaDecode
import Derived.Test.YtbccckjkmlmhhaaRDecode
import Derived.Test.YtbccckjkmlmhhaaRef
import Derived.Test.YtbccckjkmlmhhaaEncode
import Derived.Test.YtbccckjkmlmhhaaLittle
import Derived.Deep.Cut
import Derived.Test.YtbccckjkmlmhhaaReck
/- Both Decodes are one. -/
namespace Go.Proofs.Ytbccckjkmlmhhaa
open Go.RowKit Go.Sort
theorem q4s_eq (q : Q4) (s : ByteArray) (hs : s.size = 4) (hq : okQ q) : q4s q = s ↔ q.1 = byS s 0 ∧ q.2.1 = byS s 1 ∧ q.2.2.1 = byS s 2 ∧ q.2.2.2 = byS s 3 := by
  obtain ⟨o0, o1, o2, o3⟩ := hq
  have hd : s.data = #[s[0], s[1], s[2], s[3]] := by
    apply Array.ext
    · simpa using hs
    · intro i h1 h2
      have : i < 4 := by simpa using h2
      rcases (show i = 0 ∨ i = 1 ∨ i = 2 ∨ i = 3 by omega) with rfl | rfl | rfl | rfl <;> rfl
  have e : q4s q = s ↔ UInt8.ofNat (q.1 % 256).toNat = s[0] ∧ UInt8.ofNat (q.2.1 % 256).toNat = s[1] ∧ UInt8.ofNat (q.2.2.1 % 256).toNat = s[2] ∧ UInt8.ofNat (q.2.2.2 % 256).toNat = s[3] := by
    constructor
    · intro h
      have h' : (q4s q).data = s.data := by rw [h]
      rw [hd] at h'
      simpa [q4s, toU, q4l] using h'
    · rintro ⟨h0, h1, h2, h3⟩
      apply ByteArray.ext
      rw [hd]
      simp [q4s, toU, q4l, h0, h1, h2, h3]
  rw [e]
  have k : ∀ (n : Int) (b : UInt8), 0 ≤ n ∧ n < 256 → (UInt8.ofNat (n % 256).toNat = b ↔ n = b.toNat) := fun n b h => by
    rw [← UInt8.toNat_inj]
    have := toU_byte n h
    omega
  rw [k _ _ o0, k _ _ o1, k _ _ o2, k _ _ o3, byS_get s 0 (by omega), byS_get s 1 (by omega), byS_get s 2 (by omega), byS_get s 3 (by omega)]
theorem ite_opt {p q : Prop} [Decidable p] [Decidable q] {U R : Cod} (h : p ↔ q) (hU : q → U = R) : (if p then some U else none) = if q then some R else none := by
  by_cases hq : q
  · rw [if_pos (h.2 hq), if_pos hq, hU hq]
  · rw [if_neg (fun hp => hq (h.1 hp)), if_neg hq]
theorem dec_eq (s : ByteArray) (hs : s.size = 4) : decC s = if rightC (rdC s) = true then some (rdC s) else none := by
  have q0 := byS_lt s 0
  have q1 := byS_lt s 1
  have q2 := byS_lt s 2
  have q3 := byS_lt s 3
  have hE := q4s_eq (bytesC (unC s)) s hs (bytesC_ok _)
  unfold decC
  refine ite_opt ?_ ?_
  · simp only [hs, true_and, hE, rightI_eq]
    clear hE
    rcases sh_cases (byS s 0) with h | h | h | h | h | h | h
    · have hu : unC s = ⟨byS s 0, 0, 0, 0, 0⟩ := by simp [unC, up, h, wd, wth]
      have hr : rdC s = ⟨byS s 0, byS s 1, byS s 2, byS s 3, 0⟩ := by simp [rdC, h]
      rw [hu, hr]
      simp [rightC, bytesC, pk, pkW, h, wd, zer]; omega
    · have hu : unC s = ⟨byS s 0, byS s 1, 0, 0, (byS s 2 : Int) + 256 * byS s 3⟩ := by simp [unC, up, h, wd, wth, upW]
      have hr : rdC s = ⟨byS s 0, byS s 1, 0, 0, (byS s 2 : Int) + 256 * byS s 3⟩ := by simp [rdC, h]
      rw [hu, hr]
      simp [rightC, bytesC, pk, pkW, h, wd, zer, reg]; omega
    · have hu : unC s = ⟨byS s 0, byS s 1, byS s 2, 0, 0⟩ := by simp [unC, up, h, wd, wth, upW]
      have hr : rdC s = ⟨byS s 0, byS s 1, byS s 2, byS s 3, 0⟩ := by simp [rdC, h]
      rw [hu, hr]
      simp [rightC, bytesC, pk, pkW, h, wd, zer, reg]; omega
    · have hu : unC s = ⟨byS s 0, byS s 1, byS s 2, byS s 3, 0⟩ := by simp [unC, up, h, wd, wth, upW]
      have hr : rdC s = ⟨byS s 0, byS s 1, byS s 2, byS s 3, 0⟩ := by simp [rdC, h]
      rw [hu, hr]
      simp [rightC, bytesC, pk, pkW, h, wd, zer, reg]; omega
    · have hu : unC s = ⟨byS s 0, byS s 1, byS s 2, 0, byS s 3⟩ := by simp [unC, up, h, wd, wth, upW]
      have hr : rdC s = ⟨byS s 0, byS s 1, byS s 2, 0, byS s 3⟩ := by simp [rdC, h]
      rw [hu, hr]
      simp [rightC, bytesC, pk, pkW, h, wd, zer, reg]; omega
    · by_cases hn : (32768 : Int) ≤ (byS s 2 : Int) + 256 * byS s 3
      · have hu : unC s = ⟨byS s 0, 0, 0, 0, (byS s 2 : Int) + 256 * byS s 3 - 65536⟩ := by simp [unC, up, h, wd, wth, upW]; omega
        have hr : rdC s = ⟨byS s 0, byS s 1, 0, 0, (byS s 2 : Int) + 256 * byS s 3 - 65536⟩ := by simp [rdC, h, hn]
        rw [hu, hr]
        simp [rightC, bytesC, pk, pkW, h, wd, zer, way]; omega
      · have hu : unC s = ⟨byS s 0, 0, 0, 0, (byS s 2 : Int) + 256 * byS s 3⟩ := by simp [unC, up, h, wd, wth, upW]; omega
        have hr : rdC s = ⟨byS s 0, byS s 1, 0, 0, (byS s 2 : Int) + 256 * byS s 3⟩ := by simp only [rdC, h]; simp [hn]
        rw [hu, hr]
        simp [rightC, bytesC, pk, pkW, h, wd, zer, way]; omega
    · by_cases hn : (32768 : Int) ≤ (byS s 2 : Int) + 256 * byS s 3
      · have hu : unC s = ⟨byS s 0, byS s 1, 0, 0, (byS s 2 : Int) + 256 * byS s 3 - 65536⟩ := by simp [unC, up, h, wd, wth, upW]; omega
        have hr : rdC s = ⟨byS s 0, byS s 1, 0, 0, (byS s 2 : Int) + 256 * byS s 3 - 65536⟩ := by simp [rdC, h, hn]
        rw [hu, hr]
        simp [rightC, bytesC, pk, pkW, h, wd, zer, way, reg]; omega
      · have hu : unC s = ⟨byS s 0, byS s 1, 0, 0, (byS s 2 : Int) + 256 * byS s 3⟩ := by simp [unC, up, h, wd, wth, upW]; omega
        have hr : rdC s = ⟨byS s 0, byS s 1, 0, 0, (byS s 2 : Int) + 256 * byS s 3⟩ := by simp only [rdC, h]; simp [hn]
        rw [hu, hr]
        simp [rightC, bytesC, pk, pkW, h, wd, zer, way, reg]; omega
  · intro hR
    rcases sh_cases (byS s 0) with h | h | h | h | h | h | h
    · simp [rdC, h, rightC, zer] at hR
      simp [unC, up, rdC, h, wd, wth]; omega
    · simp [unC, up, rdC, h, wd, wth, upW]
    · simp [rdC, h, rightC, zer] at hR
      simp [unC, up, rdC, h, wd, wth, upW]; omega
    · simp [unC, up, rdC, h, wd, wth, upW]
    · simp [unC, up, rdC, h, wd, wth, upW]
    · by_cases hn : (32768 : Int) ≤ (byS s 2 : Int) + 256 * byS s 3
      · simp [rdC, h, rightC, zer, hn] at hR
        simp [unC, up, rdC, h, wd, wth, upW, hn]; omega
      · simp only [rdC, h] at hR
        simp [hn, rightC, zer, h] at hR
        simp only [rdC, h]
        simp [unC, up, h, wd, wth, upW, hn] <;> omega
    · by_cases hn : (32768 : Int) ≤ (byS s 2 : Int) + 256 * byS s 3
      · simp [unC, up, rdC, h, wd, wth, upW, hn] <;> omega
      · simp only [rdC, h]
        simp [unC, up, h, wd, wth, upW, hn] <;> omega
end Go.Proofs.Ytbccckjkmlmhhaa
/- What Encode of the reference answers, for every right instruction. -/
namespace Go.Proofs.Ytbccckjkmlmhhaa
open Go.RowKit Go.Sort
theorem right_lim {c : Cod} (h : rightC c = true) : (0 ≤ c.op ∧ c.op ≤ 26) ∧ (0 ≤ c.a ∧ c.a ≤ 15) ∧ (0 ≤ c.b ∧ c.b ≤ 15) ∧ (0 ≤ c.c ∧ c.c ≤ 15) ∧ (-32768 ≤ c.n ∧ c.n ≤ 65535) := by
  obtain ⟨op, a, b, d, n⟩ := c
  unfold rightC at h
  simp only [Bool.and_eq_true, decide_eq_true_eq] at h ⊢
  obtain ⟨h0, h1⟩ := h
  rcases sh_cases op with hs | hs | hs | hs | hs | hs | hs <;> simp [hs, reg, way, zer] at h1 <;> omega
end Go.Proofs.Ytbccckjkmlmhhaa
/- An instruction comes back from its bytes. -/
namespace Go.Proofs.Ytbccckjkmlmhhaa
open Go.RowKit
theorem by_q4s (q : Q4) (hq : okQ q) : (q4s q).size = 4 ∧ (byS (q4s q) 0 : Int) = q.1 ∧ (byS (q4s q) 1 : Int) = q.2.1 ∧ (byS (q4s q) 2 : Int) = q.2.2.1 ∧ (byS (q4s q) 3 : Int) = q.2.2.2 := by
  have h4 : (q4s q).size = 4 := rfl
  have := (q4s_eq q (q4s q) h4 hq).1 rfl
  exact ⟨h4, this.1.symm, this.2.1.symm, this.2.2.1.symm, this.2.2.2.symm⟩
theorem enc_dec (c : Cod) (h : rightC c = true) : decC (q4s (bytesC c)) = some c := by
  obtain ⟨l1, l2, l3, l4, l5⟩ := right_lim h
  obtain ⟨h4, e0, e1, e2, e3⟩ := by_q4s (bytesC c) (bytesC_ok c)
  have hr : rdC (q4s (bytesC c)) = c := by
    have h' := h
    unfold rightC at h'
    simp only [Bool.and_eq_true, decide_eq_true_eq] at h'
    have h1 := h'.2
    have e0' : (byS (q4s (bytesC c)) 0 : Int) = c.op := by
      rw [e0]
      rcases sh_cases c.op with hs | hs | hs | hs | hs | hs | hs <;> simp [bytesC, hs, pk, pkW, wd] <;> omega
    generalize hb0 : byS (q4s (bytesC c)) 0 = b0 at *
    generalize hb1 : byS (q4s (bytesC c)) 1 = b1 at *
    generalize hb2 : byS (q4s (bytesC c)) 2 = b2 at *
    generalize hb3 : byS (q4s (bytesC c)) 3 = b3 at *
    unfold rdC
    rw [hb0, hb1, hb2, hb3, e0']
    clear hb0 hb1 hb2 hb3
    obtain ⟨op, a, b, d, n⟩ := c
    simp only at *
    rcases sh_cases op with hs | hs | hs | hs | hs | hs | hs <;> simp [bytesC, hs, pk, pkW, wd] at e1 e2 e3 <;> simp [hs, reg, way, zer] at h1 <;> simp [hs]
    · omega
    · omega
    · omega
    · omega
    · omega
    · split <;> simp <;> omega
    · split <;> simp <;> omega
  rw [dec_eq _ h4, hr, if_pos h]
end Go.Proofs.Ytbccckjkmlmhhaa
namespace Go.Proofs.Ytbccckjkmlmhhaa
open Go.RowKit Go.Lib
theorem resI_alone {op n a b c : Int} (h : 6 ≤ op) : resI op n a b c = if op ≤ 17 then resI op 0 0 b c else a := by
  unfold resI
  rw [if_neg (show ¬ op = 3 by omega), if_neg (show ¬ op = 4 by omega), if_neg (show ¬ op = 5 by omega), if_neg (show ¬ op = 3 by omega), if_neg (show ¬ op = 4 by omega), if_neg (show ¬ op = 5 by omega)]
  by_cases h17 : op ≤ 17
  · rw [if_pos h17]
    obtain ⟨k, rfl⟩ : ∃ k : Nat, op = k := ⟨op.toNat, by omega⟩
    have hk : k = 6 ∨ k = 7 ∨ k = 8 ∨ k = 9 ∨ k = 10 ∨ k = 11 ∨ k = 12 ∨ k = 13 ∨ k = 14 ∨ k = 15 ∨ k = 16 ∨ k = 17 := by omega
    rcases hk with rfl | rfl | rfl | rfl | rfl | rfl | rfl | rfl | rfl | rfl | rfl | rfl <;> rfl
  · rw [if_neg h17]
    rw [if_neg (by omega), if_neg (by omega), if_neg (by omega), if_neg (by omega), if_neg (by omega), if_neg (by omega), if_neg (by omega), if_neg (by omega), if_neg (by omega), if_neg (by omega), if_neg (by omega), if_neg (by omega)]
/-- The registers of the law. -/
def rkR (b z : Nat) (x y : Int) : List Int := (r0.set b x).set z y
theorem rkR_ok {b z : Nat} {x y : Int} (hx : u64ok x) (hy : u64ok y) : okR (rkR b z x y) 0 := ((r0_ok 0 zero_ok).set b hx).set z hy
theorem rkR_z (b z : Nat) (x y : Int) (hz : z < 16) : (rkR b z x y).getD z 0 = y := by
  unfold rkR; rw [List.getD_eq_getElem?_getD, List.getElem?_set_self (by simp [r0]; omega)]; rfl
theorem rkR_b (b z : Nat) (x y : Int) (hb : b < 16) : (rkR b z x y).getD b 0 = if b = z then y else x := by
  unfold rkR
  rw [List.getD_eq_getElem?_getD]
  by_cases h : b = z
  · subst h; rw [if_pos rfl, List.getElem?_set_self (by simp [r0]; omega)]; rfl
  · rw [if_neg h, List.getElem?_set_ne (Ne.symm h), List.getElem?_set_self (by simp [r0]; omega)]; rfl
theorem q4_mem (c : Cod) (_h : rightC c = true) : memL (q4s (bytesC c)) = (q4s (bytesC c)).data.toList ∧ (q4s (bytesC c)).data.toList.length = 4 := by
  have h4 : (q4s (bytesC c)).size = 4 := rfl
  have : (q4s (bytesC c)).data.toList.length = 4 := rfl
  exact ⟨by unfold memL; rw [List.take_of_length_le (by omega)], this⟩
theorem rk_run (c : Cod) (b z : Nat) (x y : Int) (h : rightC c = true) (hop : 6 ≤ c.op ∧ c.op ≤ 17) (hb : c.b = b) (hz : c.c = z) (hb' : b < 16) (hz' : z < 16) :
    overS 1 (rkR b z x y) 0 (memL (q4s (bytesC c))) = ((rkR b z x y).set c.a.toNat (resI c.op 0 0 (if b = z then y else x) y), 4, memL (q4s (bytesC c)), 1, 0) := by
  obtain ⟨h1, h2⟩ := q4_mem c h
  have hd : decC ⟨(((memL (q4s (bytesC c))).drop 0).take 4).toArray⟩ = some c := by
    rw [h1, List.drop_zero, List.take_of_length_le (by omega)]
    have := enc_dec c h
    rw [← this]
  have hs : stepS (rkR b z x y) 0 (memL (q4s (bytesC c))) = ((rkR b z x y).set c.a.toNat (resI c.op 0 0 (if b = z then y else x) y), 4, memL (q4s (bytesC c)), 0) := by
    unfold stepS
    rw [if_pos (by rw [h1, h2]; decide), show (0 : Int).toNat = 0 from rfl, hd]
    simp only
    unfold doS
    rw [if_neg (by omega), if_neg (by omega), if_neg (by omega), if_pos (by omega), hb, hz, Int.toNat_natCast, Int.toNat_natCast, rkR_b _ _ _ _ hb', rkR_z _ _ _ _ hz', resI_alone hop.1, if_pos hop.2]
    rfl
  rw [overS_ran hs]; rfl
end Go.Proofs.Ytbccckjkmlmhhaa
