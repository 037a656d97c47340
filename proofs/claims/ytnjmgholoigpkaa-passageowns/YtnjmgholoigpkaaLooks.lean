/- What Sees and Alters of the reference answer, and that it is what package label answers, for right labels. -/
import Derived.Test.YtnjmgholoigpkaaRleq
namespace Go.Proofs.Ytnjmgholoigpkaa
open Go.RowKit Go.Sort

/- Plain facts: what is named, and that comparing at all that is named is comparing. -/
theorem ins_self (c : Int) (cs : List Int) : c ∈ ins c cs := by
  unfold ins
  split
  · next h => exact List.mem_of_getElem? h
  · simp
theorem ins_old {c z : Int} {cs : List Int} (h : z ∈ cs) : z ∈ ins c cs := by
  unfold ins
  split
  · exact h
  · rw [List.append_assoc, List.mem_append]
    have : z ∈ cs.take (sc c cs) ++ cs.drop (sc c cs) := by rw [List.take_append_drop]; exact h
    rcases List.mem_append.1 this with h | h
    · exact .inl h
    · exact .inr (List.mem_append.2 (.inr h))
theorem insAll_old {z : Int} (xs : List (Int × Int)) {cs : List Int} (h : z ∈ cs) : z ∈ insAll xs cs := by
  induction xs generalizing cs with
  | nil => exact h
  | cons x xs ih => exact ih (ins_old h)
theorem insAll_new {x : Int × Int} {xs : List (Int × Int)} (cs : List Int) (h : x ∈ xs) : x.1 ∈ insAll xs cs := by
  induction xs generalizing cs with
  | nil => simp at h
  | cons y xs ih =>
    rcases List.mem_cons.1 h with rfl | h
    · exact insAll_old xs (ins_self _ _)
    · exact ih _ h
theorem named2_left {A B : Lab} {x : Int × Int} (h : x ∈ A.xs) : x.1 ∈ namedS [A, B] := by
  show x.1 ∈ insAll B.xs (insAll A.xs [])
  exact insAll_old _ (insAll_new _ h)
theorem named2_right {A B : Lab} {x : Int × Int} (h : x ∈ B.xs) : x.1 ∈ namedS [A, B] := by
  show x.1 ∈ insAll B.xs (insAll A.xs [])
  exact insAll_new _ h
theorem at_out {d c : Int} {xs : List (Int × Int)} (h : ∀ x ∈ xs, x.1 ≠ c) : atS d xs c = d := by
  induction xs with
  | nil => rfl
  | cons x xs ih =>
    simp only [atS]
    rw [if_neg (by simpa using h x (List.mem_cons_self ..))]
    exact ih fun y hy => h y (List.mem_cons_of_mem _ hy)
theorem rleq_eq {A B : Lab} (hx : Rise 0 A.xs) (hy : Rise 0 B.xs) : rleqS A B = leqS A.d B.d A.xs B.xs := by
  rw [Bool.eq_iff_iff, leq_iff hx hy]
  unfold rleqS
  rw [Bool.and_eq_true, List.all_eq_true]
  constructor
  · rintro ⟨h1, h2⟩ c
    simp only [decide_eq_true_eq] at h2
    by_cases hc : c ∈ namedS [A, B]
    · have := h1 c hc; simpa [atLe] using this
    · rw [at_out (c := c) (xs := A.xs) (fun x hx e => hc (by rw [← e]; exact named2_left hx)), at_out (c := c) (xs := B.xs) (fun x hx e => hc (by rw [← e]; exact named2_right hx))]
      exact h2
  · intro h
    refine ⟨fun c _ => by simpa [atLe] using h c, ?_⟩
    have := h 0
    rw [at_none (Int.le_refl _) hx, at_none (Int.le_refl _) hy] at this
    simpa using this
theorem Rise.filter {p : Int × Int → Bool} : ∀ {l : Int} {xs : List (Int × Int)}, Rise l xs → Rise l (xs.filter p)
  | _, [], _ => trivial
  | l, x :: xs, h => by
    rw [List.filter_cons]
    split
    · exact ⟨h.1, Rise.filter h.2⟩
    · exact Rise.mono (by have := h.1; omega) (Rise.filter h.2)
theorem Rise.turn {f t : Int} : ∀ {l : Int} {xs : List (Int × Int)}, Rise l xs → Rise l (turnS f t xs)
  | _, [], _ => trivial
  | _, _ :: _, h => ⟨h.1, Rise.turn h.2⟩
theorem Rise.up {d : Int} {xs : List (Int × Int)} (h : Rise 0 xs) : Rise 0 (upS d xs) := Rise.filter (Rise.turn h)

def Lab.up (A : Lab) : Lab := ⟨upD A.d, none, 0, upS A.d A.xs⟩
def rseesS (A B : Lab) : Bool := rleqS B A.up
def raltersS (A B : Lab) : Bool := rleqS A B && rseesS A B
theorem rsees_eq {A B : Lab} (hx : Rise 0 A.xs) (hy : Rise 0 B.xs) : rseesS A B = seesS A.d B.d A.xs B.xs := rleq_eq (A := B) (B := A.up) hy (Rise.up hx)
theorem ralters_eq {A B : Lab} (hx : Rise 0 A.xs) (hy : Rise 0 B.xs) : raltersS A B = altersS A.d B.d A.xs B.xs := by
  unfold raltersS altersS; rw [rsees_eq hx hy, rleq_eq hx hy]

set_option maxRecDepth 100000 in
set_option maxHeartbeats 1000000 in
theorem rSees_any (A B : Lab) (w : World) (hm : A.xs.length + B.xs.length ≤ 8796093022000) (ha : CatsAt w A.p A.xs) (hb : CatsAt w B.p B.xs) :
    Calls Try.prog 62 #[.agg #[.int .i64 A.d, .slice A.p A.xs.length A.cap], .agg #[.int .i64 B.d, .slice B.p B.xs.length B.cap]] w fun e w' => e = .returned (.bool (rseesS A B)) ∧ Below w.heap.size w w' := by
  have hW : Below w.heap.size w ((w.alloc (.cells #[.int .i64 A.d, .slice A.p A.xs.length A.cap] 24)).alloc (.cells #[.int .i64 B.d, .slice B.p B.xs.length B.cap] 24)) := by go_grown
  have HX : Hid (∀ W, Below w.heap.size w W → CatsAt W A.p A.xs) := fun W h => ha.below h
  have HY : Hid (∀ W, Below w.heap.size w W → CatsAt W B.p B.xs) := fun W h => hb.below h
  have hle := upS_le A.d A.xs
  have hm1 : (A.xs.length + 1) * 16 ≤ 140737488355328 := by omega
  have hm2 : B.xs.length + (upS A.d A.xs).length ≤ 17592186044000 := by omega
  clear ha hb
  go_enter Try.func62, Try.ntmps62
  go_wp2
  go_region_law (first
    | (go_simp; go_at_call 39; refine (rUp_any A.d A.p A.cap A.xs _ hm1 (HX.out _ (by exact hW.drew))).mono ?_; rintro e w5 ⟨v, rfl, hR5, hb5⟩; obtain ⟨p5, cap5, rfl, hc5, hcap5⟩ := hR5.out; have hB5 : Below w.heap.size w w5 := hW.drew.trans (hb5.mono (by simp <;> omega)); have s0 : w5.cell? ⟨w.heap.size + 1, 0, none⟩ = some (.int .i64 B.d) := (hb5.cell (p := ⟨w.heap.size + 1, 0, none⟩) (by simp)).trans (by simp [go_sem]); have s1 : w5.cell? ⟨w.heap.size + 1, 1, none⟩ = some (.slice B.p B.xs.length B.cap) := (hb5.cell (p := ⟨w.heap.size + 1, 1, none⟩) (by simp)).trans (by simp [go_sem]))
    | (go_simp; go_at_call 37; refine (rLeq_any B ⟨upD A.d, p5, cap5, upS A.d A.xs⟩ _ hm2 (HY.out _ hB5) hc5).mono ?_; rintro e w6 ⟨rfl, hb6⟩))
  all_goals go_wp2
  all_goals go_ret
  all_goals exact ⟨rfl, hB5.trans (hb6.mono hB5.size)⟩

set_option maxRecDepth 100000 in
set_option maxHeartbeats 1000000 in
theorem rAlters_any (A B : Lab) (w : World) (hm : A.xs.length + B.xs.length ≤ 8796093022000) (ha : CatsAt w A.p A.xs) (hb : CatsAt w B.p B.xs) :
    Calls Try.prog 36 #[.agg #[.int .i64 A.d, .slice A.p A.xs.length A.cap], .agg #[.int .i64 B.d, .slice B.p B.xs.length B.cap]] w fun e w' => e = .returned (.bool (raltersS A B)) ∧ Below w.heap.size w w' := by
  have hW : Below w.heap.size w ((w.alloc (.cells #[.int .i64 A.d, .slice A.p A.xs.length A.cap] 24)).alloc (.cells #[.int .i64 B.d, .slice B.p B.xs.length B.cap] 24)) := by go_grown
  have hL := rLeq_any A B _ (by omega) (ha.below hW) (hb.below hW)
  by_cases h1 : rleqS A B = true
  · go_enter Try.func36, Try.ntmps36
    go_wp2_with (first
      | (go_at_call 37; refine hL.mono ?_; rintro e w5 ⟨rfl, hb5⟩; have hB5 : Below w.heap.size w w5 := hW.trans (hb5.mono (by simp <;> omega)); have s0 : w5.cell? ⟨w.heap.size, 0, none⟩ = some (.int .i64 A.d) := (hb5.cell (p := ⟨w.heap.size, 0, none⟩) (by simp <;> omega)).trans (by simp [go_sem]); have s1 : w5.cell? ⟨w.heap.size, 1, none⟩ = some (.slice A.p A.xs.length A.cap) := (hb5.cell (p := ⟨w.heap.size, 1, none⟩) (by simp <;> omega)).trans (by simp [go_sem]); have t0 : w5.cell? ⟨w.heap.size + 1, 0, none⟩ = some (.int .i64 B.d) := (hb5.cell (p := ⟨w.heap.size + 1, 0, none⟩) (by simp)).trans (by simp [go_sem]); have t1 : w5.cell? ⟨w.heap.size + 1, 1, none⟩ = some (.slice B.p B.xs.length B.cap) := (hb5.cell (p := ⟨w.heap.size + 1, 1, none⟩) (by simp)).trans (by simp [go_sem]))
      | (go_at_call 62; refine (rSees_any A B _ hm (ha.below hB5) (hb.below hB5)).mono ?_; rintro e w6 ⟨rfl, hb6⟩))
    go_ret
    exact ⟨ret_bool (by simp [raltersS, h1]), hB5.trans (hb6.mono hB5.size)⟩
  · have h1' : rleqS A B = false := by simpa using h1
    go_enter Try.func36, Try.ntmps36
    go_wp2_with (go_at_call 37; refine hL.mono ?_; rintro e w5 ⟨rfl, hb5⟩)
    go_ret
    exact ⟨ret_bool (by simp [raltersS, h1']), hW.trans (hb5.mono (by simp <;> omega))⟩
end Go.Proofs.Ytnjmgholoigpkaa
