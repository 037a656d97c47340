/- The reference's functions of labels, as they are called; say, at, cats. -/
import Derived.Test.YtnjmgholoigpkabAtM
namespace Go.Proofs.Ytnjmgholoigpkab
open Go.RowKit Go.Sort
theorem rUp_c {l : ML} {v : Value} {W : World} (h : LV l v W) : Calls Try.prog 11 #[v] W fun e W' => ∃ v', e = .returned v' ∧ Below W.heap.size W W' ∧ LV (upM l) v' W' := by
  obtain ⟨p, cap, rfl, h1, h2, h3⟩ := h
  refine (rUp_any l.1 p cap l.2 W (by omega) h1).mono ?_
  rintro e W' ⟨v, rfl, hR, hb⟩
  obtain ⟨p', cap', rfl, hc, hcap⟩ := hR.out
  exact ⟨_, rfl, hb, p', cap', rfl, hc, hcap, Nat.le_trans (upS_le l.1 l.2) h3⟩
theorem rPlain_c {l : ML} {v : Value} {W : World} (h : LV l v W) : Calls Try.prog 6 #[v] W fun e W' => ∃ v', e = .returned v' ∧ Below W.heap.size W W' ∧ v' = .bool (plainS l.1 l.2) := by
  obtain ⟨p, cap, rfl, h1, h2, h3⟩ := h
  refine (refPlain_any l.1 p cap l.2 W (by unfold maxLen; omega) h1).mono ?_
  rintro e W' ⟨rfl, hb⟩
  exact ⟨_, rfl, hb, rfl⟩
theorem rFree_c {l : ML} {v : Value} {W : World} (h : LV l v W) : Calls Try.prog 7 #[v] W fun e W' => ∃ v', e = .returned v' ∧ Below W.heap.size W W' ∧ v' = .bool (freeS l.1 l.2) := by
  obtain ⟨p, cap, rfl, h1, h2, h3⟩ := h
  refine (refFree_any l.1 p cap l.2 W (by unfold maxLen; omega) h1).mono ?_
  rintro e W' ⟨rfl, hb⟩
  exact ⟨_, rfl, hb, rfl⟩
def rleM (a b : ML) : Bool := rleqS ⟨a.1, none, 0, a.2⟩ ⟨b.1, none, 0, b.2⟩
def raltM (a b : ML) : Bool := raltersS ⟨a.1, none, 0, a.2⟩ ⟨b.1, none, 0, b.2⟩
theorem rLeq_c {a b : ML} {v u : Value} {W : World} (h : LV a v W) (h' : LV b u W) : Calls Try.prog 9 #[v, u] W fun e W' => ∃ v', e = .returned v' ∧ Below W.heap.size W W' ∧ v' = .bool (rleM a b) := by
  obtain ⟨p, cap, rfl, h1, h2, h3⟩ := h
  obtain ⟨p', cap', rfl, h1', h2', h3'⟩ := h'
  refine (rLeq_any ⟨a.1, p, cap, a.2⟩ ⟨b.1, p', cap', b.2⟩ W (by show a.2.length + b.2.length ≤ _; omega) h1 h1').mono ?_
  rintro e W' ⟨rfl, hb⟩
  exact ⟨_, rfl, hb, rfl⟩
/-- The categories of some labels, rising. -/
def nmM (ls : List ML) : List Int := ls.foldl (fun out l => insAll l.2 out) []
theorem nmM_eq (Ls : List Lab) : namedS Ls = nmM (Ls.map fun L => (L.d, L.xs)) := by
  unfold namedS nmM; rw [List.foldl_map]
theorem total_le (Ls : List Lab) (h : ∀ L ∈ Ls, L.xs.length ≤ 16) : total Ls ≤ Ls.length * 16 := by
  induction Ls with
  | nil => simp [total]
  | cons l ls ih =>
    have h1 := ih fun x hx => h x (List.mem_cons_of_mem _ hx)
    have h2 := h l (List.mem_cons_self ..)
    unfold total at h1 ⊢
    simp only [List.map_cons, List.sum_cons, List.length_cons]
    omega
theorem nmM_len {ls : List ML} {v : Value} {W : World} (h : LsV ls v W) : (nmM ls).length ≤ ls.length * 16 := by
  obtain ⟨b, Ls, rfl, hb, hL, rfl, h16⟩ := h.labs
  rw [← nmM_eq, List.length_map]
  have h1 := named_len Ls Ls.length
  rw [List.take_length] at h1
  exact Nat.le_trans h1 (total_le Ls h16)
theorem rNamed_c {ls : List ML} {v : Value} {W : World} (h : LsV ls v W) (hn : ls.length ≤ 16) : Calls Try.prog 18 #[v] W fun e W' => ∃ v', e = .returned v' ∧ Below W.heap.size W W' ∧ ∃ g cap, v' = .slice (some ⟨g, 0, none⟩) (nmM ls).length cap ∧ W'.ownsRow W.heap.size 3 1 v' (nmM ls).length (icells (nmM ls)) := by
  obtain ⟨b, Ls, rfl, hb, hL, rfl, h16⟩ := h.labs
  rw [List.length_map] at hn
  rw [← nmM_eq]
  refine (Named_any b Ls W hb hn (by have := total_le Ls h16; omega) hL).mono ?_
  rintro e W' ⟨g, cap, rfl, hown, hb⟩
  exact ⟨_, rfl, hb, g, cap, rfl, hown⟩
/-- The level, 0 being a category that isn't named. -/
def aZ (l : ML) (c : Int) : Int := if c = 0 then l.1 else aM l c
end Go.Proofs.Ytnjmgholoigpkab
