/- Plain facts: what both Makes answer is one. -/
import Derived.Test.YtnjmgholoigpkaaRMake
import Derived.Test.YtnjmgholoigpkaaWith
namespace Go.Proofs.Ytnjmgholoigpkaa
open Go.RowKit Go.Sort

def Clash (xs : List (Int × Int)) : Prop := ∃ x ∈ xs, ∃ y ∈ xs, x.1 = y.1 ∧ x.2 ≠ y.2
theorem clT_iff (xs : List (Int × Int)) (k : Nat) (hk : k ≤ xs.length) : clT xs k = true ↔ ∃ i, i < k ∧ ∃ j, j < i ∧ (zat xs i).1 = (zat xs j).1 ∧ (zat xs i).2 ≠ (zat xs j).2 := by
  induction k with
  | zero => simp [clT]
  | succ k ih =>
    have ih := ih (by omega)
    simp only [clT, Bool.or_eq_true, ih]
    constructor
    · rintro (⟨i, hi, j, hj, h⟩ | h)
      · exact ⟨i, by omega, j, hj, h⟩
      · unfold clash at h
        rw [List.any_eq_true] at h
        obtain ⟨y, hy, h⟩ := h
        obtain ⟨j, hj, e⟩ := List.mem_iff_getElem.1 hy
        have hj' : j < k := by rw [List.length_take] at hj; omega
        rw [List.getElem_take] at e
        refine ⟨k, by omega, j, hj', ?_⟩
        rw [zat_get xs j (by omega), e]
        simpa using h
    · rintro ⟨i, hi, j, hj, h1, h2⟩
      rcases Nat.lt_or_ge i k with hik | hik
      · exact .inl ⟨i, hik, j, hj, h1, h2⟩
      · obtain rfl : i = k := by omega
        refine .inr ?_
        unfold clash
        rw [List.any_eq_true]
        refine ⟨zat xs j, ?_, by simp [h1, h2]⟩
        rw [zat_get xs j (by omega)]
        exact List.mem_iff_getElem.2 ⟨j, by rw [List.length_take]; omega, by rw [List.getElem_take]⟩
theorem clT_clash (xs : List (Int × Int)) : clT xs xs.length = true ↔ Clash xs := by
  rw [clT_iff xs xs.length (Nat.le_refl _)]
  constructor
  · rintro ⟨i, hi, j, hj, h1, h2⟩
    rw [zat_get xs i hi, zat_get xs j (by omega)] at h1 h2
    exact ⟨xs[i], List.getElem_mem hi, xs[j], List.getElem_mem (by omega), h1, h2⟩
  · rintro ⟨x, hx, y, hy, h1, h2⟩
    obtain ⟨i, hi, rfl⟩ := List.mem_iff_getElem.1 hx
    obtain ⟨j, hj, rfl⟩ := List.mem_iff_getElem.1 hy
    rcases Nat.lt_trichotomy i j with h | h | h
    · exact ⟨j, hj, i, h, by rw [zat_get xs i hi, zat_get xs j hj]; exact h1.symm, by rw [zat_get xs i hi, zat_get xs j hj]; exact fun e => h2 e.symm⟩
    · subst h; exact absurd rfl h2
    · exact ⟨i, hi, j, h, by rw [zat_get xs i hi, zat_get xs j hj]; exact h1, by rw [zat_get xs i hi, zat_get xs j hj]; exact h2⟩

theorem ddT_sub (zs : List (Int × Int)) (k : Nat) (hk : k ≤ zs.length) : (ddT zs k).Sublist (zs.take k) := by
  induction k with
  | zero => simp [ddT]
  | succ k ih =>
    have ih := ih (by omega)
    rw [List.take_succ_eq_append_getElem (by omega : k < zs.length)]
    simp only [ddT]
    split
    · exact ih.trans (List.sublist_append_left _ _)
    · rw [zat_get zs k (by omega)]; exact ih.append (List.Sublist.refl _)
theorem ddT_mem (zs : List (Int × Int)) (k : Nat) (hk : k ≤ zs.length) (x : Int × Int) : x ∈ zs.take k → x ∈ ddT zs k := by
  induction k with
  | zero => simp
  | succ k ih =>
    have ih := ih (by omega)
    rw [List.take_succ_eq_append_getElem (by omega : k < zs.length)]
    simp only [ddT]
    intro h
    split
    · next hh =>
      rcases List.mem_append.1 h with h | h
      · exact ih h
      · refine ih ?_
        rw [List.mem_singleton.1 h, ← zat_get zs k (by omega), hh.2, zat_get zs (k - 1) (by omega)]
        exact List.mem_iff_getElem.2 ⟨k - 1, by rw [List.length_take]; omega, by rw [List.getElem_take]⟩
    · rcases List.mem_append.1 h with h | h
      · exact List.mem_append.2 (.inl (ih h))
      · rw [List.mem_singleton.1 h, ← zat_get zs k (by omega)]; exact List.mem_append.2 (.inr (List.mem_singleton.2 rfl))
def Adj (ds : List (Int × Int)) : Prop := ∀ i, (h : i + 1 < ds.length) → ds[i] ≠ ds[i + 1]
def LastIs (ds : List (Int × Int)) (z : Int × Int) : Prop := ∃ h : 0 < ds.length, ds[ds.length - 1] = z
theorem ddT_adj (zs : List (Int × Int)) (k : Nat) : Adj (ddT zs k) ∧ (k ≠ 0 → LastIs (ddT zs k) (zat zs (k - 1))) := by
  induction k with
  | zero => exact ⟨fun i h => by simp [ddT] at h, fun h => absurd rfl h⟩
  | succ k ih =>
    obtain ⟨h1, h2⟩ := ih
    by_cases hh : k ≠ 0 ∧ zat zs k = zat zs (k - 1)
    · have e : ddT zs (k + 1) = ddT zs k := by simp only [ddT]; rw [if_pos hh]
      rw [e]
      refine ⟨h1, fun _ => ?_⟩
      obtain ⟨hp, hl⟩ := h2 hh.1
      exact ⟨hp, by rw [hl, Nat.add_sub_cancel]; exact hh.2.symm⟩
    · have e : ddT zs (k + 1) = ddT zs k ++ [zat zs k] := by simp only [ddT]; rw [if_neg hh]
      rw [e]
      refine ⟨fun i h => ?_, fun _ => ⟨by simp, by simp⟩⟩
      rw [List.length_append, List.length_singleton] at h
      rcases Nat.lt_or_ge (i + 1) (ddT zs k).length with hi | hi
      · rw [List.getElem_append_left (by omega), List.getElem_append_left hi]; exact h1 i hi
      · have hi' : i + 1 = (ddT zs k).length := by omega
        have hk0 : k ≠ 0 := fun e0 => by subst e0; simp [ddT] at hi'
        obtain ⟨hp, hl⟩ := h2 hk0
        rw [List.getElem_append_left (by omega), List.getElem_append_right hi]
        have ei : (ddT zs k)[i]'(by omega) = zat zs (k - 1) := by rw [← hl]; congr 1; omega
        rw [ei]
        simp only [List.getElem_singleton]
        exact fun e2 => hh ⟨hk0, e2.symm⟩
theorem twin_false {ds : List (Int × Int)} (hs : ds.Pairwise fun x y => x.1 ≤ y.1) (h : twin ds = false) : ds.Pairwise fun x y => x.1 < y.1 := by
  induction ds with
  | nil => exact List.Pairwise.nil
  | cons x r ih =>
    cases r with
    | nil => exact List.pairwise_singleton _ _
    | cons y r =>
      simp only [twin, Bool.or_eq_false_iff, beq_eq_false_iff_ne] at h
      have hs' := List.pairwise_cons.1 hs
      have ih := ih hs'.2 h.2
      refine List.Pairwise.cons (fun z hz => ?_) ih
      have hxy := hs'.1 y (List.mem_cons_self ..)
      rcases List.mem_cons.1 hz with rfl | hz
      · omega
      · have := (List.pairwise_cons.1 ih).1 z hz; omega
theorem twin_true {ds : List (Int × Int)} (h : twin ds = true) : ∃ i, ∃ h : i + 1 < ds.length, ds[i].1 = ds[i + 1].1 := by
  induction ds with
  | nil => simp [twin] at h
  | cons x r ih =>
    cases r with
    | nil => simp [twin] at h
    | cons y r =>
      simp only [twin, Bool.or_eq_true, beq_iff_eq] at h
      rcases h with h | h
      · exact ⟨0, by simp, h⟩
      · obtain ⟨i, hi, e⟩ := ih h
        exact ⟨i + 1, by simpa using hi, by simpa using e⟩
theorem at_first {d c : Int} {xs : List (Int × Int)} (h : ∃ x ∈ xs, x.1 = c) : ∃ y ∈ xs, y.1 = c ∧ atS d xs c = y.2 := by
  induction xs with
  | nil => obtain ⟨x, hx, _⟩ := h; simp at hx
  | cons z zs ih =>
    simp only [atS]
    by_cases hz : z.1 = c
    · exact ⟨z, List.mem_cons_self .., hz, by rw [if_pos (by simpa using hz)]⟩
    · obtain ⟨x, hx, e⟩ := h
      rcases List.mem_cons.1 hx with rfl | hx
      · exact absurd e hz
      · obtain ⟨y, hy, e1, e2⟩ := ih ⟨x, hx, e⟩
        exact ⟨y, List.mem_cons_of_mem _ hy, e1, by rw [if_neg (by simpa using hz)]; exact e2⟩
theorem diff_inj {ds : List (Int × Int)} (hd : Diff ds) {x y : Int × Int} (hx : x ∈ ds) (hy : y ∈ ds) (h : x.1 = y.1) : x = y := by
  have h1 := at_mem (d := 0) hd hx
  have h2 := at_mem (d := 0) hd hy
  rw [h] at h1
  exact Prod.ext h (h1.symm.trans h2)

theorem makes_eq (d : Int) {xs zs : List (Int × Int)} (hcan : (xs.any fun x => !can x) = false) (hp : zs.Perm xs) (hs : SortedC zs) :
    mkD d (ddT zs zs.length) = rkD d xs ∧ mkL d (ddT zs zs.length) = rkL d xs ∧ mkE d (ddT zs zs.length) = rkE d xs := by
  have h0 : ∀ x ∈ xs, 0 < x.1 := fun x hx => by
    have := List.any_eq_false.1 hcan x hx
    simp [can, isCt] at this; omega
  have hsub : (ddT zs zs.length).Sublist zs := by have := ddT_sub zs zs.length (Nat.le_refl _); rwa [List.take_length] at this
  have hmem : ∀ x, x ∈ ddT zs zs.length ↔ x ∈ xs := fun x => ⟨fun h => hp.mem_iff.1 (hsub.subset h), fun h => ddT_mem zs zs.length (Nat.le_refl _) x (by rw [List.take_length]; exact hp.mem_iff.2 h)⟩
  have hadj := (ddT_adj zs zs.length).1
  have hsz : zs.Pairwise fun x y => x.1 ≤ y.1 := List.pairwise_iff_getElem.2 fun i j hi hj hij => hs i j hij hj
  have hsd : (ddT zs zs.length).Pairwise fun x y => x.1 ≤ y.1 := hsz.sublist hsub
  generalize ddT zs zs.length = ds at *
  unfold mkD mkL mkE rkD rkL rkE
  rw [hcan]
  by_cases ht : twin ds = true
  · have hc : clT xs xs.length = true := by
      rw [clT_clash]
      obtain ⟨i, hi, e⟩ := twin_true ht
      exact ⟨ds[i], (hmem _).1 (List.getElem_mem _), ds[i + 1], (hmem _).1 (List.getElem_mem _), e, fun e2 => hadj i hi (Prod.ext e e2)⟩
    simp [ht, hc]
  · have ht' : twin ds = false := by simpa using ht
    have hlt := twin_false hsd ht'
    have hr : Rise 0 ds := rise_of hlt (fun x hx => h0 x ((hmem x).1 hx))
    have hd := rise_diff hr
    have hc : clT xs xs.length = false := by
      rw [← Bool.not_eq_true, clT_clash]
      rintro ⟨x, hx, y, hy, e1, e2⟩
      exact e2 (congrArg Prod.snd (diff_inj hd ((hmem x).2 hx) ((hmem y).2 hy) e1))
    have hn : Rise 0 (rowS (atS d xs) (namedS [allLab d xs])) := rise_insAll (f := atS d xs) (xs := xs) h0 (cs := []) trivial
    have he : shortS d ds = rmakeS d xs := by
      refine same_of_at (d := d) (l := 0) (Rise.filter hr) (Rise.filter hn) (nodef_short _ _) (nodef_short _ _) (fun c _ => ?_)
      unfold rmakeS
      rw [at_short hr, at_short hn, at_row]
      by_cases hx : ∃ x ∈ xs, x.1 = c
      · obtain ⟨y, hy, e1, e2⟩ := at_first (d := d) hx
        have hin : c ∈ namedS [allLab d xs] := by rw [← e1]; exact insAll_new (xs := xs) [] hy
        rw [if_pos hin, e2, ← e1]
        exact at_mem hd ((hmem y).2 hy)
      · have o1 : atS d ds c = d := at_out fun x h e => hx ⟨x, (hmem x).1 h, e⟩
        have o2 : atS d xs c = d := at_out fun x h e => hx ⟨x, h, e⟩
        rw [o1, o2]; simp
    simp [ht', hc, he]
end Go.Proofs.Ytnjmgholoigpkaa
