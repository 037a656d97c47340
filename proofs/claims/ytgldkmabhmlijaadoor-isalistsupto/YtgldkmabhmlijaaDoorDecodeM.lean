/- Both Decodes are one. -/
import Derived.Test.YtgldkmabhmlijaaDoorDecode
import Derived.Test.YtgldkmabhmlijaaDoorRDecode
namespace Go.Proofs.YtgldkmabhmlijaaDoor
open Go.RowKit Go.Sort
theorem q4s_eq (q : Q4) (s : ByteArray) (hs : s.size = 4) (hq : okQ q) : q4s q = s ↔ q.1 = byS s 0 ∧ q.2.1 = byS s 1 ∧ q.2.2.1 = byS s 2 ∧ q.2.2.2 = byS s 3 := by
  obtain ⟨o0, o1, o2, o3⟩ := hq
  have hd : s.data = #[s[0], s[1], s[2], s[3]] := by
    apply Array.ext
    · simpa using hs
    · intro i h1 h2
      have : i < 4 := by simpa using h2
      rcases (show i = 0 ∨ i = 1 ∨ i = 2 ∨ i = 3 by omega) with rfl | rfl | rfl | rfl <;> rfl
  have e : q4s q = s ↔ UInt8.ofNat (q.1 % 256).toNat = s[0] ∧ UInt8.ofNat (q.2.1 % 256).toNat = s[1] ∧ UInt8.ofNat (q.2.2.1 % 256).toNat = s[2] ∧ UInt8.ofNat (q.2.2.2 % 256).toNat = s[3] := by
    constructor
    · intro h
      have h' : (q4s q).data = s.data := by rw [h]
      rw [hd] at h'
      simpa [q4s, toU, q4l] using h'
    · rintro ⟨h0, h1, h2, h3⟩
      apply ByteArray.ext
      rw [hd]
      simp [q4s, toU, q4l, h0, h1, h2, h3]
  rw [e]
  have k : ∀ (n : Int) (b : UInt8), 0 ≤ n ∧ n < 256 → (UInt8.ofNat (n % 256).toNat = b ↔ n = b.toNat) := fun n b h => by
    rw [← UInt8.toNat_inj]
    have := toU_byte n h
    omega
  rw [k _ _ o0, k _ _ o1, k _ _ o2, k _ _ o3, byS_get s 0 (by omega), byS_get s 1 (by omega), byS_get s 2 (by omega), byS_get s 3 (by omega)]
theorem ite_opt {p q : Prop} [Decidable p] [Decidable q] {U R : Cod} (h : p ↔ q) (hU : q → U = R) : (if p then some U else none) = if q then some R else none := by
  by_cases hq : q
  · rw [if_pos (h.2 hq), if_pos hq, hU hq]
  · rw [if_neg (fun hp => hq (h.1 hp)), if_neg hq]
theorem dec_eq (s : ByteArray) (hs : s.size = 4) : decC s = if rightC (rdC s) = true then some (rdC s) else none := by
  have q0 := byS_lt s 0
  have q1 := byS_lt s 1
  have q2 := byS_lt s 2
  have q3 := byS_lt s 3
  have hE := q4s_eq (bytesC (unC s)) s hs (bytesC_ok _)
  unfold decC
  refine ite_opt ?_ ?_
  · simp only [hs, true_and, hE, rightI_eq]
    clear hE
    rcases sh_cases (byS s 0) with h | h | h | h | h | h | h
    · have hu : unC s = ⟨byS s 0, 0, 0, 0, 0⟩ := by simp [unC, up, h, wd, wth]
      have hr : rdC s = ⟨byS s 0, byS s 1, byS s 2, byS s 3, 0⟩ := by simp [rdC, h]
      rw [hu, hr]
      simp [rightC, bytesC, pk, pkW, h, wd, zer]; omega
    · have hu : unC s = ⟨byS s 0, byS s 1, 0, 0, (byS s 2 : Int) + 256 * byS s 3⟩ := by simp [unC, up, h, wd, wth, upW]
      have hr : rdC s = ⟨byS s 0, byS s 1, 0, 0, (byS s 2 : Int) + 256 * byS s 3⟩ := by simp [rdC, h]
      rw [hu, hr]
      simp [rightC, bytesC, pk, pkW, h, wd, zer, reg]; omega
    · have hu : unC s = ⟨byS s 0, byS s 1, byS s 2, 0, 0⟩ := by simp [unC, up, h, wd, wth, upW]
      have hr : rdC s = ⟨byS s 0, byS s 1, byS s 2, byS s 3, 0⟩ := by simp [rdC, h]
      rw [hu, hr]
      simp [rightC, bytesC, pk, pkW, h, wd, zer, reg]; omega
    · have hu : unC s = ⟨byS s 0, byS s 1, byS s 2, byS s 3, 0⟩ := by simp [unC, up, h, wd, wth, upW]
      have hr : rdC s = ⟨byS s 0, byS s 1, byS s 2, byS s 3, 0⟩ := by simp [rdC, h]
      rw [hu, hr]
      simp [rightC, bytesC, pk, pkW, h, wd, zer, reg]; omega
    · have hu : unC s = ⟨byS s 0, byS s 1, byS s 2, 0, byS s 3⟩ := by simp [unC, up, h, wd, wth, upW]
      have hr : rdC s = ⟨byS s 0, byS s 1, byS s 2, 0, byS s 3⟩ := by simp [rdC, h]
      rw [hu, hr]
      simp [rightC, bytesC, pk, pkW, h, wd, zer, reg]; omega
    · by_cases hn : (32768 : Int) ≤ (byS s 2 : Int) + 256 * byS s 3
      · have hu : unC s = ⟨byS s 0, 0, 0, 0, (byS s 2 : Int) + 256 * byS s 3 - 65536⟩ := by simp [unC, up, h, wd, wth, upW]; omega
        have hr : rdC s = ⟨byS s 0, byS s 1, 0, 0, (byS s 2 : Int) + 256 * byS s 3 - 65536⟩ := by simp [rdC, h, hn]
        rw [hu, hr]
        simp [rightC, bytesC, pk, pkW, h, wd, zer, way]; omega
      · have hu : unC s = ⟨byS s 0, 0, 0, 0, (byS s 2 : Int) + 256 * byS s 3⟩ := by simp [unC, up, h, wd, wth, upW]; omega
        have hr : rdC s = ⟨byS s 0, byS s 1, 0, 0, (byS s 2 : Int) + 256 * byS s 3⟩ := by simp only [rdC, h]; simp [hn]
        rw [hu, hr]
        simp [rightC, bytesC, pk, pkW, h, wd, zer, way]; omega
    · by_cases hn : (32768 : Int) ≤ (byS s 2 : Int) + 256 * byS s 3
      · have hu : unC s = ⟨byS s 0, byS s 1, 0, 0, (byS s 2 : Int) + 256 * byS s 3 - 65536⟩ := by simp [unC, up, h, wd, wth, upW]; omega
        have hr : rdC s = ⟨byS s 0, byS s 1, 0, 0, (byS s 2 : Int) + 256 * byS s 3 - 65536⟩ := by simp [rdC, h, hn]
        rw [hu, hr]
        simp [rightC, bytesC, pk, pkW, h, wd, zer, way, reg]; omega
      · have hu : unC s = ⟨byS s 0, byS s 1, 0, 0, (byS s 2 : Int) + 256 * byS s 3⟩ := by simp [unC, up, h, wd, wth, upW]; omega
        have hr : rdC s = ⟨byS s 0, byS s 1, 0, 0, (byS s 2 : Int) + 256 * byS s 3⟩ := by simp only [rdC, h]; simp [hn]
        rw [hu, hr]
        simp [rightC, bytesC, pk, pkW, h, wd, zer, way, reg]; omega
  · intro hR
    rcases sh_cases (byS s 0) with h | h | h | h | h | h | h
    · simp [rdC, h, rightC, zer] at hR
      simp [unC, up, rdC, h, wd, wth]; omega
    · simp [unC, up, rdC, h, wd, wth, upW]
    · simp [rdC, h, rightC, zer] at hR
      simp [unC, up, rdC, h, wd, wth, upW]; omega
    · simp [unC, up, rdC, h, wd, wth, upW]
    · simp [unC, up, rdC, h, wd, wth, upW]
    · by_cases hn : (32768 : Int) ≤ (byS s 2 : Int) + 256 * byS s 3
      · simp [rdC, h, rightC, zer, hn] at hR
        simp [unC, up, rdC, h, wd, wth, upW, hn]; omega
      · simp only [rdC, h] at hR
        simp [hn, rightC, zer, h] at hR
        simp only [rdC, h]
        simp [unC, up, h, wd, wth, upW, hn] <;> omega
    · by_cases hn : (32768 : Int) ≤ (byS s 2 : Int) + 256 * byS s 3
      · simp [unC, up, rdC, h, wd, wth, upW, hn] <;> omega
      · simp only [rdC, h]
        simp [unC, up, h, wd, wth, upW, hn] <;> omega
end Go.Proofs.YtgldkmabhmlijaaDoor
