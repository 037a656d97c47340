/- under, as it is called. -/
import Derived.Test.YtnjmgholoigpkaaUnd
namespace Go.Proofs.Ytnjmgholoigpkaa
open Go.RowKit Go.Sort
theorem ent_under1 : Enters 79 := fun args W => by go_simp
def undB (F F' : Int → Int) (cs : List Int) : Bool := !decide (F' 0 < F 0) && !(cs.any fun c => decide (F' c < F c))
set_option maxRecDepth 100000 in
set_option maxHeartbeats 1000000 in
theorem under_c {F F' : Int → Int} {cs : List Int} {v u z : Value} {w : World} (h : Lev F v w) (h' : Lev F' u w) (hz : IV cs z w) (hn : cs.length < 1000000) :
    Calls Try.prog 53 #[v, u, z] w fun e w' => ∃ v', e = .returned v' ∧ Below w.heap.size w w' ∧ v' = .bool (undB F F' cs) := by
  obtain ⟨f, cap, rfl, he, hF⟩ := id h
  obtain ⟨f', cap', rfl, he', hF'⟩ := id h'
  obtain ⟨p, cz, rfl⟩ := hz.form
  obtain ⟨W2, hW2⟩ : ∃ W2, W2 = (w.alloc (.cells #[.func (.func f) #[] cap] 60)).alloc (.cells #[.func (.func f') #[] cap'] 60) := ⟨_, rfl⟩
  have hb : Below w.heap.size w W2 := by rw [hW2]; go_grown
  have hP : PrdV (fun c => decide (F' c < F c)) (.func (.func 79) #[] #[.pointer (some ⟨w.heap.size, 0, none⟩), .pointer (some ⟨w.heap.size + 1, 0, none⟩)]) W2 := by
    refine ⟨_, _, rfl, ent_under1, fun W' hb' c => ?_⟩
    have c0 : W2.cell? ⟨w.heap.size, 0, none⟩ = some (.func (.func f) #[] cap) := by rw [hW2]; simp [go_sem]
    have c1 : W2.cell? ⟨w.heap.size + 1, 0, none⟩ = some (.func (.func f') #[] cap') := by rw [hW2]; simp [go_sem]
    have z0 : w.heap.size < W2.heap.size := by rw [hW2]; simp; omega
    have z1 : w.heap.size + 1 < W2.heap.size := by rw [hW2]; simp
    exact under1_any F F' c _ _ _ _ W' ((hb'.cell (p := ⟨w.heap.size, 0, none⟩) z0).trans c0) ((hb'.cell (p := ⟨w.heap.size + 1, 0, none⟩) z1).trans c1) ((h.below hb).below hb') ((h'.below hb).below hb')
  have H0 : Calls Try.prog 79 #[.int .i64 0, .pointer (some ⟨w.heap.size, 0, none⟩), .pointer (some ⟨w.heap.size + 1, 0, none⟩)] W2 fun e W' => e = .returned (.bool (decide (F' 0 < F 0))) ∧ Below W2.heap.size W2 W' := by
    have c0 : W2.cell? ⟨w.heap.size, 0, none⟩ = some (.func (.func f) #[] cap) := by rw [hW2]; simp [go_sem]
    have c1 : W2.cell? ⟨w.heap.size + 1, 0, none⟩ = some (.func (.func f') #[] cap') := by rw [hW2]; simp [go_sem]
    exact under1_any F F' 0 _ _ _ _ W2 c0 c1 (h.below hb) (h'.below hb)
  rw [hW2] at H0
  have HC : Hid (∀ W3, Below W2.heap.size W2 W3 → Calls Try.prog 80 #[.slice p cs.length cz, .func (.func 79) #[] #[.pointer (some ⟨w.heap.size, 0, none⟩), .pointer (some ⟨w.heap.size + 1, 0, none⟩)]] W3 fun e w' => e = .returned (.bool (cs.any fun c => decide (F' c < F c))) ∧ Below W3.heap.size W3 w') :=
    fun W3 h3 => ContainsFunc_c ((hz.below hb).below h3) (hP.below h3) hn
  have H0' := Lib.hid H0
  have HB := Lib.hid hb
  have HU : Hid (undB F F' cs = (!decide (F' 0 < F 0) && !(cs.any fun c => decide (F' c < F c)))) := rfl
  clear h h' hz hP H0 hF hF' he he' hb
  obtain ⟨x, hx⟩ : ∃ x, decide (F' 0 < F 0) = x := ⟨_, rfl⟩
  rw [hx] at H0' HU
  clear hx
  cases x with
  | true =>
    go_enter Try.func53, Try.ntmps53
    go_wp2_with (go_at_call 79; refine H0'.out.mono ?_; rintro e w1 ⟨rfl, hb1⟩)
    go_ret
    exact ⟨_, rfl, HB.out.trans ((hW2 ▸ hb1).mono HB.out.size), by rw [HU.out]; rfl⟩
  | false =>
    go_enter Try.func53, Try.ntmps53
    go_wp2_with (first
      | (go_at_call 79; refine H0'.out.mono ?_; rintro e w1 ⟨rfl, hb1⟩; have hb1' : Below W2.heap.size W2 w1 := hW2 ▸ hb1)
      | (go_at_call 80; refine (HC.out w1 hb1').mono ?_; rintro e w2 ⟨rfl, hb2⟩))
    go_ret
    exact ⟨_, rfl, HB.out.trans ((hb1'.trans (hb2.mono hb1'.size)).mono HB.out.size), by rw [HU.out]; rfl⟩
end Go.Proofs.Ytnjmgholoigpkaa
