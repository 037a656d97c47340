/- The reference's functions of labels, as they are called; say, at, cats. -/
import Derived.Test.YtnjmgholoigpkaaAtM
namespace Go.Proofs.Ytnjmgholoigpkaa
open Go.RowKit Go.Sort
theorem rUp_c {l : ML} {v : Value} {W : World} (h : LV l v W) : Calls Try.prog 39 #[v] W fun e W' => ∃ v', e = .returned v' ∧ Below W.heap.size W W' ∧ LV (upM l) v' W' := by
  obtain ⟨p, cap, rfl, h1, h2, h3⟩ := h
  refine (rUp_any l.1 p cap l.2 W (by omega) h1).mono ?_
  rintro e W' ⟨v, rfl, hR, hb⟩
  obtain ⟨p', cap', rfl, hc, hcap⟩ := hR.out
  exact ⟨_, rfl, hb, p', cap', rfl, hc, hcap, Nat.le_trans (upS_le l.1 l.2) h3⟩
theorem rPlain_c {l : ML} {v : Value} {W : World} (h : LV l v W) : Calls Try.prog 24 #[v] W fun e W' => ∃ v', e = .returned v' ∧ Below W.heap.size W W' ∧ v' = .bool (plainS l.1 l.2) := by
  obtain ⟨p, cap, rfl, h1, h2, h3⟩ := h
  refine (refPlain_any l.1 p cap l.2 W (by unfold maxLen; omega) h1).mono ?_
  rintro e W' ⟨rfl, hb⟩
  exact ⟨_, rfl, hb, rfl⟩
theorem rFree_c {l : ML} {v : Value} {W : World} (h : LV l v W) : Calls Try.prog 29 #[v] W fun e W' => ∃ v', e = .returned v' ∧ Below W.heap.size W W' ∧ v' = .bool (freeS l.1 l.2) := by
  obtain ⟨p, cap, rfl, h1, h2, h3⟩ := h
  refine (refFree_any l.1 p cap l.2 W (by unfold maxLen; omega) h1).mono ?_
  rintro e W' ⟨rfl, hb⟩
  exact ⟨_, rfl, hb, rfl⟩
def rleM (a b : ML) : Bool := rleqS ⟨a.1, none, 0, a.2⟩ ⟨b.1, none, 0, b.2⟩
def raltM (a b : ML) : Bool := raltersS ⟨a.1, none, 0, a.2⟩ ⟨b.1, none, 0, b.2⟩
theorem rLeq_c {a b : ML} {v u : Value} {W : World} (h : LV a v W) (h' : LV b u W) : Calls Try.prog 37 #[v, u] W fun e W' => ∃ v', e = .returned v' ∧ Below W.heap.size W W' ∧ v' = .bool (rleM a b) := by
  obtain ⟨p, cap, rfl, h1, h2, h3⟩ := h
  obtain ⟨p', cap', rfl, h1', h2', h3'⟩ := h'
  refine (rLeq_any ⟨a.1, p, cap, a.2⟩ ⟨b.1, p', cap', b.2⟩ W (by show a.2.length + b.2.length ≤ _; omega) h1 h1').mono ?_
  rintro e W' ⟨rfl, hb⟩
  exact ⟨_, rfl, hb, rfl⟩
theorem rAlters_c {a b : ML} {v u : Value} {W : World} (h : LV a v W) (h' : LV b u W) : Calls Try.prog 36 #[v, u] W fun e W' => ∃ v', e = .returned v' ∧ Below W.heap.size W W' ∧ v' = .bool (raltM a b) := by
  obtain ⟨p, cap, rfl, h1, h2, h3⟩ := h
  obtain ⟨p', cap', rfl, h1', h2', h3'⟩ := h'
  refine (rAlters_any ⟨a.1, p, cap, a.2⟩ ⟨b.1, p', cap', b.2⟩ W (by show a.2.length + b.2.length ≤ _; omega) h1 h1').mono ?_
  rintro e W' ⟨rfl, hb⟩
  exact ⟨_, rfl, hb, rfl⟩
/-- The categories of some labels, rising. -/
def nmM (ls : List ML) : List Int := ls.foldl (fun out l => insAll l.2 out) []
theorem nmM_eq (Ls : List Lab) : namedS Ls = nmM (Ls.map fun L => (L.d, L.xs)) := by
  unfold namedS nmM; rw [List.foldl_map]
theorem total_le (Ls : List Lab) (h : ∀ L ∈ Ls, L.xs.length ≤ 16) : total Ls ≤ Ls.length * 16 := by
  induction Ls with
  | nil => simp [total]
  | cons l ls ih =>
    have h1 := ih fun x hx => h x (List.mem_cons_of_mem _ hx)
    have h2 := h l (List.mem_cons_self ..)
    unfold total at h1 ⊢
    simp only [List.map_cons, List.sum_cons, List.length_cons]
    omega
theorem nmM_len {ls : List ML} {v : Value} {W : World} (h : LsV ls v W) : (nmM ls).length ≤ ls.length * 16 := by
  obtain ⟨b, Ls, rfl, hb, hL, rfl, h16⟩ := h.labs
  rw [← nmM_eq, List.length_map]
  have h1 := named_len Ls Ls.length
  rw [List.take_length] at h1
  exact Nat.le_trans h1 (total_le Ls h16)
theorem rNamed_c {ls : List ML} {v : Value} {W : World} (h : LsV ls v W) (hn : ls.length ≤ 16) : Calls Try.prog 27 #[v] W fun e W' => ∃ v', e = .returned v' ∧ Below W.heap.size W W' ∧ ∃ g cap, v' = .slice (some ⟨g, 0, none⟩) (nmM ls).length cap ∧ W'.ownsRow W.heap.size 3 1 v' (nmM ls).length (icells (nmM ls)) := by
  obtain ⟨b, Ls, rfl, hb, hL, rfl, h16⟩ := h.labs
  rw [List.length_map] at hn
  rw [← nmM_eq]
  refine (Named_any b Ls W hb hn (by have := total_le Ls h16; omega) hL).mono ?_
  rintro e W' ⟨g, cap, rfl, hown, hb⟩
  exact ⟨_, rfl, hb, g, cap, rfl, hown⟩
/-- The level, 0 being a category that isn't named. -/
def aZ (l : ML) (c : Int) : Int := if c = 0 then l.1 else aM l c
theorem at_c {l : ML} {v : Value} {w : World} (h : LV l v w) (c : Int) : Calls Try.prog 51 #[v, .int .i64 c] w fun e w' => ∃ v', e = .returned v' ∧ Below w.heap.size w w' ∧ v' = .int .i64 (aZ l c) := by
  obtain ⟨p, cap, rfl, h1, h2, h3⟩ := id h
  have hA : Below w.heap.size w (w.alloc (.cells #[.int .i64 l.1, .slice p l.2.length cap] 24)) := by go_grown
  have H := Lib.hid (rAt_c (h.below hA) c)
  clear h h1
  by_cases h0 : c = 0
  · have h0' : (c == 0) = true := by simp [h0]
    have HV := Lib.hid (show aZ l c = l.1 from if_pos h0)
    clear h0
    go_enter Try.func51, Try.ntmps51
    go_wp2_with fail
    go_ret
    exact ⟨_, rfl, hA, by rw [HV.out]; rfl⟩
  · have h0' : (c == 0) = false := by simp [h0]
    have HV := Lib.hid (show aZ l c = aM l c from if_neg h0)
    clear h0
    go_enter Try.func51, Try.ntmps51
    go_wp2_with (go_at_call 28; refine H.out.mono ?_; rintro e w1 ⟨rfl, hb1⟩)
    go_ret
    exact ⟨_, rfl, hA.trans (hb1.mono hA.size), by rw [HV.out]; rfl⟩
theorem say_c (b : Bool) (w : World) : Calls Try.prog 35 #[.bool b] w fun e w' => ∃ v', e = .returned v' ∧ Below w.heap.size w w' ∧ v' = .int .i64 (if b = true then 0 else 3) := by
  cases b <;>
  · go_enter Try.func35, Try.ntmps35
    go_wp2
    go_ret
    exact ⟨rfl, Below.refl _ _⟩
set_option maxRecDepth 100000 in
set_option maxHeartbeats 1000000 in
theorem cats_c {ls : List ML} {v : Value} {w : World} (h : LsV ls v w) (hn : ls.length ≤ 16) : Calls Try.prog 55 #[v] w fun e w' => ∃ v', e = .returned v' ∧ Below w.heap.size w w' ∧ IV (nmM ls ++ [0]) v' w' := by
  obtain ⟨i0, hi, hz0, hz1, hz2⟩ := info_parts info3
  have hlen := nmM_len h
  have H := Lib.hid (rNamed_c h hn)
  obtain ⟨b, rfl, hb0, hL⟩ := h
  clear hL
  go_enter Try.func55, Try.ntmps55
  go_wp2_with (go_at_call 27; refine H.out.mono ?_; rintro e w1 ⟨_, rfl, hb1, g, cap, rfl, hown⟩; refine Hid.out ?_)
  refine Lib.hid ?_
  have h63 : (nmM ls).length + 1 ≤ maxLen := by unfold maxLen; omega
  have hby : ((nmM ls).length + 1) * 8 ≤ 140737488355328 := by omega
  have hownA := hown.alloc (.cells #[.int .i64 0] 3)
  have HO := Lib.hid (cell_one_new' w1 (.int .i64 0) 3)
  have hbA : Below w.heap.size w (w1.alloc (.cells #[.int .i64 0] 3)) := hb1.alloc hb1.size _
  clear H hown
  go_wp2_with (at_builtin; refine wpList_append_own _ rfl _ _ 43 rfl w.heap.size 3 i0 (.int .i64 0) 1 8 Try.underlying43 hi hz0 hz1 hz2 rfl (by decide) _ _ _ rfl hownA ⟨w1.heap.size, 0, none⟩ 1 1 [.int .i64 0] rfl rfl HO.out (fun x hx => by simp at hx; subst hx; rfl) h63 hby hbA.size ?_; intro v5 w5 hown5 hgrow5 hnil5)
  go_ret
  refine ⟨_, rfl, Below.grown hbA hgrow5 hbA.size (fun j hj => (hownA.lt _ hj).1), w.heap.size, ?_⟩
  rw [show [Value.int .i64 0] = icells [0] from rfl, ← icells_append] at hown5
  simpa using hown5
end Go.Proofs.Ytnjmgholoigpkaa
