/- Who may see more sees more (plain facts, no walk). -/
import Derived.Test.YtonhdkldacghoaaSeeL
import Derived.Test.YtonhdkldacghoaaAllB
import Derived.Test.YtonhdkldacghoaaLooks
namespace Go.Proofs.Ytonhdkldacghoaa
open Go.RowKit Go.Sort Go.Shelf

theorem allV_at {A B : Lab} (hA : Rise 0 A.xs) (hB : Rise 0 B.xs) {P : Int × Int → Prop} (h : ∀ x ∈ allV B.d A.d B.xs A.xs, P x) (c : Int) : P (atS B.d B.xs c, atS A.d A.xs c) := by
  by_cases h1 : ∃ e ∈ B.xs, e.1 = c
  · obtain ⟨e, he, rfl⟩ := h1
    rw [at_mem hB he]
    exact h _ (mem_allV.2 (.inr (.inl ⟨e, he, rfl⟩)))
  · by_cases h2 : ∃ e ∈ A.xs, e.1 = c
    · obtain ⟨e, he, rfl⟩ := h2
      rw [at_mem (d := A.d) hA he]
      exact h _ (mem_allV.2 (.inr (.inr ⟨e, he, rfl⟩)))
    · rw [at_out (fun x hx e => h1 ⟨x, hx, e⟩), at_out (fun x hx e => h2 ⟨x, hx, e⟩)]
      exact h _ (mem_allV.2 (.inl rfl))
theorem low_mono {l m : Lab} (hl : freeS l.d l.xs = true) (hm : freeS m.d m.xs = true) (hle : leqS l.d m.d l.xs m.xs = true) {o : Ob} (h : lowB l o = true) : lowB m o = true := by
  unfold lowB at h ⊢
  have hp : plainS o.L.d o.L.xs = true := by
    unfold lowS telS at h
    simp only [Bool.and_eq_true] at h; exact h.1.2
  have rl := (right_rise (free_right hl)).1
  have rm := (right_rise (free_right hm)).1
  have ro := (right_rise (plain_right hp)).1
  have hle' := (leq_iff rl rm).1 hle
  rw [low_ref hm hp]
  have h1 : ∀ x ∈ allV o.L.d l.d o.L.xs l.xs, upx x.1 ≤ x.2 := fun x hx => by
    unfold lowS at h
    rw [Bool.and_eq_true, List.all_eq_true] at h
    refine (good_up x).1 ?_
    have := h.2 x hx
    unfold badS; simpa using this
  unfold rlowS
  rw [List.all_eq_true]
  intro c _
  have h2 := allV_at (A := l) (B := o.L) rl ro (P := fun x => upx x.1 ≤ x.2) h1 c
  unfold upLe
  exact decide_eq_true (Int.le_trans h2 (hle' c))
theorem reach_mono {d : List Ob} {l m : Lab} {root x : Int} (hlm : ∀ o, lowB l o = true → lowB m o = true) (h : Reach d l root x) : Reach d m root x := by
  induction h with
  | root h1 h2 => exact .root h1 (hlm _ h2)
  | step _ hl hk hx h1 h2 ih => exact .step ih hl hk hx h1 (hlm _ h2)
/-- What is seen for the first is seen for the second. -/
structure More (a b : List Ob) : Prop where
  ua : (a.map (·.id)).Pairwise (· < ·)
  ub : (b.map (·.id)).Pairwise (· < ·)
  sub : ∀ x ∈ a, ∃ y ∈ b, y.id = x.id ∧ obB x y = true
theorem obB_con {a b : Ob} (h : a.con = b.con) : obB a b = true := by
  have e : obB a b = obB a.con b.con := rfl
  rw [e, h]; exact obB_refl _
theorem see_id {d : List Ob} {os : List Ob} {zs : List Nat} (hc : os.map Ob.con = zs.map (seeZ d)) (hlt : ∀ z ∈ zs, z < d.length) : os.map (·.id) = zs.map (idAt d) := by
  have e : os.map (·.id) = (os.map Ob.con).map (·.id) := by rw [List.map_map]; rfl
  rw [e, hc, List.map_map]
  refine List.map_congr_left fun z hz => ?_
  simp only [Function.comp]
  rw [seeZ_lt (hlt z hz), idAt_lt (hlt z hz)]; rfl
theorem more_of {d : List Ob} {l m : Lab} {root : Int} {w w' v v' : _} {a b : List Ob} {za zb : List Nat} {wa wb : World} (ha : SeeOut d l root w wa v a za) (hb : SeeOut d m root w' wb v' b zb) (hlm : ∀ o, lowB l o = true → lowB m o = true) : More a b := by
  have ia := see_id ha.con ha.lt
  have ib := see_id hb.con hb.lt
  refine ⟨by rw [ia]; exact ha.vis.1, by rw [ib]; exact hb.vis.1, fun x hx => ?_⟩
  obtain ⟨i, hi, rfl⟩ := List.getElem_of_mem hx
  have hla := len_con ha.con
  have hlb := len_con hb.con
  have hiz : i < za.length := by omega
  have hxid : a[i].id = idAt d za[i] := by
    have := congrArg (fun l => l[i]?) ia
    simpa [hi, hiz] using this
  have hin : idAt d za[i] ∈ zb.map (idAt d) := (hb.vis.2 _).2 (reach_mono hlm ((ha.vis.2 _).1 (List.mem_map.2 ⟨_, List.getElem_mem hiz, rfl⟩)))
  obtain ⟨j, hj, he⟩ := List.getElem_of_mem hin
  rw [List.length_map] at hj
  have hjb : j < b.length := by omega
  simp only [List.getElem_map] at he
  have hyid : b[j].id = idAt d zb[j] := by
    have := congrArg (fun l => l[j]?) ib
    simpa [hj, hjb] using this
  refine ⟨b[j], List.getElem_mem hjb, by rw [hyid, hxid, he], obB_con ?_⟩
  have ca : a[i].con = seeZ d za[i] := by
    have := congrArg (fun l => l[i]?) ha.con
    simpa [hi, hiz] using this
  have cb : b[j].con = seeZ d zb[j] := by
    have := congrArg (fun l => l[j]?) hb.con
    simpa [hj, hjb] using this
  rw [ca, cb]
  have l1 := ha.lk _ (List.getElem_mem hiz)
  have l2 := hb.lk _ (List.getElem_mem hj)
  rw [he, l1] at l2
  unfold seeZ
  rw [l2]
theorem More.len {a b : List Ob} (h : More a b) : a.length ≤ b.length := by
  have := nodup_len (a := a.map Ob.id) (b := b.map Ob.id) (h.ua.imp (fun hx => Int.ne_of_lt hx)) (fun x hx => by
    obtain ⟨o, ho, rfl⟩ := List.mem_map.1 hx
    obtain ⟨y, hy, e, _⟩ := h.sub o ho
    exact List.mem_map.2 ⟨y, hy, e⟩)
  simpa using this
theorem rise_get {a : List Ob} (h : (a.map (·.id)).Pairwise (· < ·)) {i j : Nat} (hij : i < j) (hj : j < a.length) : a[i].id < a[j].id := by
  have := List.pairwise_iff_getElem.1 h i j (by rw [List.length_map]; omega) (by rw [List.length_map]; exact hj) hij
  simpa using this
/-- How far the second list is gone through. -/
def Gone (a b : List Ob) (i k : Nat) : Prop := ∀ j (_ : j < k) (hj : j < b.length) i' (_ : i ≤ i') (hi' : i' < a.length), b[j].id < a[i'].id
theorem Gone.start (a b : List Ob) : Gone a b 0 0 := fun j h => by omega
theorem Gone.step {a b : List Ob} {i k : Nat} (h : Gone a b i k) (hu : (a.map (·.id)).Pairwise (· < ·)) (hk : k < b.length) (hi : i < a.length) (hl : b[k].id < a[i].id) : Gone a b i (k + 1) := fun j hj hjb i' hi' hia => by
  by_cases e : j = k
  · subst e
    by_cases e2 : i = i'
    · subst e2; exact hl
    · exact Int.lt_trans hl (rise_get hu (by omega) hia)
  · exact h j (by omega) hjb i' hi' hia
theorem Gone.next {a b : List Ob} {i k : Nat} (h : Gone a b i k) : Gone a b (i + 1) k := fun j hj hjb i' hi' hia => h j hj hjb i' (by omega) hia
/-- Where the second list's number isn't less, it is the same object. -/
theorem Gone.found {a b : List Ob} {i k : Nat} (h : Gone a b i k) (hm : More a b) (hi : i < a.length) (hs : ∀ hk : k < b.length, ¬ b[k].id < a[i].id) : ∃ hk : k < b.length, obB a[i] b[k] = true := by
  obtain ⟨y, hy, e, hob⟩ := hm.sub a[i] (List.getElem_mem hi)
  obtain ⟨j, hj, rfl⟩ := List.getElem_of_mem hy
  have hkj : k ≤ j := by
    by_cases hlt : j < k
    · have := h j hlt hj i (Nat.le_refl _) hi
      omega
    · omega
  have hk : k < b.length := by omega
  by_cases e2 : k = j
  · subst e2; exact ⟨hk, hob⟩
  · have := rise_get hm.ub (show k < j by omega) hj
    have := hs hk
    omega
end Go.Proofs.Ytonhdkldacghoaa
