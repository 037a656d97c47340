/- Plain facts: a right label's bytes are read as that label; bytes that are read as a right label are that label's. -/
import Derived.Test.YtibnmiigfiofmaaDoorRead
import Derived.Test.YtibnmiigfiofmaaDoorOrder
namespace Go.Proofs.YtibnmiigfiofmaaDoor
open Go.RowKit

theorem entI_len (x : Int × Int) : (entI x).length = 9 := by simp [entI, catI]
theorem entsI_get (xs : List (Int × Int)) (i j : Nat) (hi : i < xs.length) (hj : j < 9) : (entsI xs)[9 * i + j]? = (entI xs[i])[j]? := by
  induction xs generalizing i with
  | nil => simp at hi
  | cons x xs ih =>
    simp only [entsI]
    cases i with
    | zero =>
      rw [Nat.mul_zero, Nat.zero_add, List.getElem?_append_left (by rw [entI_len]; exact hj)]; rfl
    | succ i =>
      rw [List.getElem?_append_right (by rw [entI_len]; omega), entI_len, show 9 * (i + 1) + j - 9 = 9 * i + j from by omega, ih i (by simpa using hi)]
      simp
theorem bytesI_head (d : Int) (n : Nat) (xs : List (Int × Int)) : (bytesI d n xs)[0]? = some d ∧ (bytesI d n xs)[1]? = some (n : Int) := ⟨rfl, rfl⟩
theorem bytesI_at (d : Int) (n : Nat) (xs : List (Int × Int)) (i j : Nat) (hi : i < xs.length) (hj : j < 9) : (bytesI d n xs)[2 + 9 * i + j]? = (entI xs[i])[j]? := by
  unfold bytesI
  rw [List.getElem?_append_right (by simp; omega), ← entsI_get xs i j hi hj]
  congr 1
  simp; omega
theorem entI_cat (x : Int × Int) (j : Nat) (hj : j < 8) : (entI x)[j]? = some (x.1 / 2 ^ (8 * j)) := by
  unfold entI catI
  rw [List.getElem?_append_left (by simpa using hj)]
  simp [hj]
theorem entI_lev (x : Int × Int) : (entI x)[8]? = some x.2 := by
  unfold entI catI
  rw [List.getElem?_append_right (by simp)]; simp
def lby (ns : List Int) : ByteArray := ⟨(toU ns).toArray⟩
theorem lby_size (ns : List Int) : (lby ns).size = ns.length := by show (toU ns).toArray.size = _; simp [toU]
theorem lby_at {ns : List Int} {p : Nat} {n : Int} (h : ns[p]? = some n) : (by' (lby ns) p : Int) = n % 256 := by
  have h1 := Int.emod_nonneg n (show (256 : Int) ≠ 0 by decide)
  have h2 := Int.emod_lt_of_pos n (show (0 : Int) < 256 by decide)
  have e : (lby ns).data.getD (0 + p) 0 = UInt8.ofNat (n % 256).toNat := by
    show (toU ns).toArray.getD (0 + p) 0 = _
    simp [toU, h]
  unfold by' byteAt
  rw [e, UInt8.toNat_ofNat']
  omega

theorem bytesI_length (d : Int) (xs : List (Int × Int)) : (bytesI d xs.length xs).length = 2 + 9 * xs.length := by
  unfold bytesI; rw [List.length_append, entsI_len]; simp; omega

theorem right_lim {d : Int} : ∀ {l : Int} {xs : List (Int × Int)}, rOk d l xs = true → ∀ x ∈ xs, (1 ≤ x.1 ∧ x.1 ≤ 2305843009213693951) ∧ 0 ≤ x.2 ∧ x.2 ≤ 5
  | _, [], _, x, hx => by simp at hx
  | l, y :: ys, h, x, hx => by
    simp only [rOk, Bool.and_eq_true] at h
    rcases List.mem_cons.1 hx with rfl | hx
    · have := h.1.1.1; simp [can, isCt, lev] at this; omega
    · exact right_lim h.2 x hx
theorem right_rok {d : Int} {xs : List (Int × Int)} (h : rightS d xs = true) : rOk d 0 xs = true := by
  simp only [rightS, Bool.and_eq_true] at h; exact h.2

theorem nat_of {a : Nat} {b : Int} (h : (a : Int) = b) : a = b.toNat := by omega
theorem bytes_read {d : Int} {xs : List (Int × Int)} (h : rightS d xs = true) :
    by' (lby (bytesI d xs.length xs)) 1 = xs.length ∧ (by' (lby (bytesI d xs.length xs)) 0 : Int) = d ∧ entL (lby (bytesI d xs.length xs)) xs.length = xs := by
  obtain ⟨_, _, h16, d0, d5⟩ := right_rise h
  have hlim := right_lim (right_rok h)
  obtain ⟨g0, g1⟩ := bytesI_head d xs.length xs
  refine ⟨?_, ?_, ?_⟩
  · have := lby_at g1; omega
  · rw [lby_at g0]; omega
  · refine List.ext_getElem (by simp [entL]) fun i h1 h2 => ?_
    have hx := hlim xs[i] (List.getElem_mem h2)
    have e : (entL (lby (bytesI d xs.length xs)) xs.length)[i] = entAt (lby (bytesI d xs.length xs)) i := by simp [entL]
    rw [e]
    unfold entAt
    have eb : ∀ j, j < 8 → by' (lby (bytesI d xs.length xs)) (2 + 9 * i + j) = (xs[i].1.toNat) / 2 ^ (8 * j) % 256 := fun j hj => by
      have h3 := lby_at ((bytesI_at d xs.length xs i j h2 (by omega)).trans (entI_cat xs[i] j hj))
      have h4 : xs[i].1 = ((xs[i].1.toNat : Nat) : Int) := by omega
      rw [h4] at h3
      have h5 : (((xs[i].1.toNat : Nat) : Int) / 2 ^ (8 * j) % 256) = ((xs[i].1.toNat / 2 ^ (8 * j) % 256 : Nat) : Int) := by simp
      rw [h5] at h3
      exact Int.ofNat_inj.1 h3
    have el := lby_at ((bytesI_at d xs.length xs i 8 h2 (by omega)).trans (entI_lev xs[i]))
    have es : sumB (fun j => by' (lby (bytesI d xs.length xs)) (2 + 9 * i + j)) 8 = xs[i].1.toNat := by
      rw [sumB_congr (g := fun j => xs[i].1.toNat / 2 ^ (8 * j) % 256) eb, sumB_back]
      exact Nat.mod_eq_of_lt (by have : (2 : Nat) ^ (8 * 8) = 18446744073709551616 := by decide
                                 omega)
    rw [es, el, wrap64_id (by omega) (by omega)]
    refine Prod.ext ?_ ?_
    · show ((xs[i].1.toNat : Nat) : Int) = xs[i].1; omega
    · show xs[i].2 % 256 = xs[i].2; omega

theorem read_bytes {s : ByteArray} {N : Nat} (hs : s.size = 2 + 9 * N) (hN : by' s 1 = N) (h : rightS (by' s 0) (entL s N) = true) : lby (bytesI (by' s 0) (entL s N).length (entL s N)) = s := by
  have hlim := right_lim (right_rok h)
  have hlen : (entL s N).length = N := entL_len s N
  have hz : (lby (bytesI (by' s 0) (entL s N).length (entL s N))).size = s.size := by rw [lby_size, bytesI_length, hlen, hs]
  have hb0 := by_lt s 0
  have hb1 := by_lt s 1
  have hby : ∀ p, p < s.size → by' (lby (bytesI (by' s 0) (entL s N).length (entL s N))) p = by' s p := by
    intro p hp
    obtain ⟨g0, g1⟩ := bytesI_head (by' s 0) (entL s N).length (entL s N)
    rcases Nat.lt_or_ge p 2 with h2 | h2
    · rcases (show p = 0 ∨ p = 1 by omega) with rfl | rfl
      · have := lby_at g0; omega
      · have := lby_at g1; rw [hlen] at this; rw [hlen]; omega
    · obtain ⟨i, j, hj, rfl⟩ : ∃ i j, j < 9 ∧ p = 2 + 9 * i + j := ⟨(p - 2) / 9, (p - 2) % 9, Nat.mod_lt _ (by decide), by omega⟩
      have hi : i < (entL s N).length := by rw [hlen]; omega
      have he : (entL s N)[i] = entAt s i := by simp [entL]
      have hx := hlim (entL s N)[i] (List.getElem_mem hi)
      rw [he] at hx
      have hB := bytesI_at (by' s 0) (entL s N).length (entL s N) i j hi hj
      rw [he] at hB
      rcases Nat.lt_or_ge j 8 with h8 | h8
      · have h3 := lby_at (hB.trans (entI_cat _ j h8))
        have hS := sumB_lt (f := fun j => by' s (2 + 9 * i + j)) (fun j => by_lt s _) 8
        have h64 : (2 : Nat) ^ (8 * 8) = 18446744073709551616 := by decide
        have hd := sumB_digit (f := fun j => by' s (2 + 9 * i + j)) (fun j => by_lt s _) j (7 - j)
        rw [show j + 1 + (7 - j) = 8 from by omega] at hd
        have e1 : (entAt s i).1 = ((sumB (fun j => by' s (2 + 9 * i + j)) 8 : Nat) : Int) := by
          have h6 : 1 ≤ wrap64 ((sumB (fun j => by' s (2 + 9 * i + j)) 8 : Nat) : Int) := hx.1.1
          show wrap64 ((sumB (fun j => by' s (2 + 9 * i + j)) 8 : Nat) : Int) = _
          generalize sumB (fun j => by' s (2 + 9 * i + j)) 8 = S at *
          unfold wrap64 at h6 ⊢
          omega
        rw [e1] at h3
        have h5 : (((sumB (fun j => by' s (2 + 9 * i + j)) 8 : Nat) : Int) / 2 ^ (8 * j) % 256) = ((sumB (fun j => by' s (2 + 9 * i + j)) 8 / 2 ^ (8 * j) % 256 : Nat) : Int) := by simp
        rw [h5, hd] at h3
        exact Int.ofNat_inj.1 h3
      · obtain rfl : j = 8 := by omega
        have h3 := lby_at (hB.trans (entI_lev _))
        have hb := by_lt s (2 + 9 * i + 8)
        have e2 : (entAt s i).2 = (by' s (2 + 9 * i + 8) : Int) := rfl
        rw [e2] at h3
        omega
  apply ByteArray.ext
  refine Array.ext hz fun p h1 h2 => ?_
  have h3 := hby p h2
  rw [← by_get _ p h1, ← by_get s p h2, ByteArray.getElem_eq_getElem_data, ByteArray.getElem_eq_getElem_data] at h3
  exact UInt8.toNat_inj.1 h3
end Go.Proofs.YtibnmiigfiofmaaDoor
