/- What is seen is told alike (plain facts, no walk). -/
import Derived.Test.YtonhdkldacghoaaRSee
import Derived.Test.YtonhdkldacghoaaMoreM
namespace Go.Proofs.Ytonhdkldacghoaa
open Go.RowKit Go.Sort Go.Shelf

theorem allB_con : ∀ {a b : List Ob}, a.map Ob.con = b.map Ob.con → allB a b = true
  | [], [], _ => rfl
  | [], _ :: _, h => by simp at h
  | _ :: _, [], h => by simp at h
  | x :: xs, y :: ys, h => by
    simp only [List.map_cons, List.cons.injEq] at h
    rw [allB, obB_con h.1, allB_con h.2]; rfl
theorem see_eq {d : List Ob} {l : Lab} {root : Int} {w w' : World} {v : Value} {os : List Ob} {zs : List Nat} {vs : List Int} (h : SeeOut d l root w w' v os zs) (hv : VisOk d l root vs) : allB os (vs.map (oU d)) = true := by
  refine allB_con ?_
  rw [h.con, hv.eq h.vis, List.map_map, List.map_map]
  refine List.map_congr_left fun z hz => ?_
  simp only [Function.comp]
  have e := h.lk z hz
  unfold seeZ oU
  rw [e]
/-- The object that stands behind the dump. -/
def sp0 : Ob := { zOb 0 0 (lab0 0) none 0 [] with bytes := ⟨#[115, 112, 97, 114, 101]⟩ }
theorem sp0_ok (w : World) : ObOk w sp0 := by
  have hnil : ∀ {p : Option Addr}, IntsAt w p [] := fun k hk => by simp at hk
  have hcn : ∀ {p : Option Addr}, CatsAt w p [] := fun k hk => by simp at hk
  have hmn : ∀ {p : Option Addr}, MsAt w p [] := fun k hk => by simp at hk
  exact ⟨by simp [sp0, zOb], hcn, by simp [sp0, zOb, lab0], hnil, by simp [sp0, zOb], hmn, by simp [sp0, zOb], hcn, by simp [sp0, zOb, lab0], hnil, by simp [sp0, zOb], by simp [sp0, zOb, i64], fun x hx => by simp [sp0, zOb] at hx, by simp [sp0, zOb, lab0], by simp [sp0, zOb, lab0]⟩
theorem sp0_built : Try.prog.built 42 [(2, .string ⟨#[115, 112, 97, 114, 101]⟩)] = some sp0.cs := by kernel_rfl
theorem obs_cells {w : World} {b off : Nat} {d : List Ob} (h : ObsAt w (some ⟨b, off, none⟩) d) : ∀ j u, (obsC d)[j]? = some u → w.cell? ((⟨b, off, none⟩ : Addr).add j) = some u := by
  intro j u hu
  have hst : ∀ o ∈ d, o.st.length = 17 := fun o ho => by
    obtain ⟨k, hk, rfl⟩ := List.getElem_of_mem ho
    obtain ⟨_, _, _, _, _, hok⟩ := h k hk
    exact hok.st
  have hj : j < d.length * 38 := by rw [← obsC_len hst]; exact (List.getElem?_eq_some_iff.1 hu).1
  have hk : j / 38 < d.length := by omega
  obtain ⟨b', off', e, _, hat, _⟩ := h (j / 38) hk
  cases e
  have hg := obsC_get hst (j / 38) hk (j % 38) (by omega)
  rw [show j / 38 * 38 + j % 38 = j from by omega, hu] at hg
  rw [addr_plus, show off + j = off + j / 38 * 38 + j % 38 from by omega]
  exact hat (j % 38) u (by simp [Ob.cs, ← hg])
theorem obs_one {d : List Ob} : ∀ u ∈ obsC d, u.oneCell' = true := by
  induction d with
  | nil => intro u hu; simp [obsC] at hu
  | cons o d ih =>
    intro u hu
    rw [obsC, List.mem_append] at hu
    rcases hu with hu | hu
    · have := Ob.one (o := o)
      rw [Array.all_eq_true] at this
      obtain ⟨i, hi', he⟩ := List.getElem_of_mem hu
      have h2 := this i (by simpa [Ob.cs] using hi')
      simp only [Ob.cs, List.getElem_toArray] at h2
      rw [he] at h2; exact h2
    · exact ih u hu
theorem obs_nil {w : World} {d : List Ob} (h : ObsAt w none d) : d = [] := by
  cases d with
  | nil => rfl
  | cons o d => obtain ⟨b, off, e, _⟩ := h 0 (by simp); cases e
theorem obs_take {w : World} {p : Option Addr} {a b : List Ob} (h : ObsAt w p (a ++ b)) : ObsAt w p a := fun k hk => by
  obtain ⟨b', off, hp, hb, hat, hok⟩ := h k (by simp; omega)
  rw [List.getElem_append_left hk] at hat hok
  exact ⟨b', off, hp, hb, hat, hok⟩
end Go.Proofs.Ytonhdkldacghoaa
