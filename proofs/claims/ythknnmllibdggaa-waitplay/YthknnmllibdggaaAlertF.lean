/- What becomes of the rooms when an alert is left, taken, or all of a thread are forgotten. -/
import Derived.Test.YthknnmllibdggaaLeave
namespace Go.Proofs.Ythknnmllibdggaa
open Go.RowKit Go.Sort
theorem itA_app (a b : List Al) : itA (a ++ b) = itA a ++ itA b := List.map_append
theorem itA_nil {l : List Al} : itA l = [] ↔ l = [] := by unfold itA; simp
def setA (f : Int → List Al) (t : Int) (l : List Al) : Int → List Al := fun t' => if t' = t then l else f t'
open Classical in
noncomputable def ownA (own : Nat → Option Tag) (I Q : Nat) (t : Int) (k : Nat) : Option Tag := if k = I then some (.ai t) else if k = Q then some (.aq t) else own k
set_option maxRecDepth 10000 in
theorem alPush_finM {w W3 : World} {R : Rm} {I Q n3 : Nat} {t c : Int} (h0 : RmAt w R) (ht : i64 t) (hc : i64 c)
    (hm3 : MAt W3 3 R.m3 n3 (updF R.fa (ky t) (some Q))) (hn3 : n3 ≤ R.N + 1) (hq3 : QAI W3 Q (itA (R.al t) ++ [⟨I, .int .i64 c⟩])) (hF3 : Fm w W3 (fun k => k = R.m3 ∨ (itA (R.al t) ≠ [] ∧ qf Q (itA (R.al t)) k)))
    (hQ3 : (itA (R.al t) = [] ∧ w.heap.size ≤ Q) ∨ (itA (R.al t) ≠ [] ∧ R.fa (ky t) = some Q ∧ QAI w Q (itA (R.al t)))) (hI : w.heap.size ≤ I) :
    ∃ R', (R'.m0 = R.m0 ∧ R'.m1 = R.m1 ∧ R'.m2 = R.m2 ∧ R'.m3 = R.m3) ∧ RmAt W3 R' ∧ R'.rb = R.rb ∧ R'.all = R.all ∧ R'.al = setA R.al t (R.al t ++ [⟨I, c⟩]) ∧ R'.N = R.N + 1 ∧ Fm w W3 (fun k => R.own k ≠ none) ∧ ∀ k, R'.own k ≠ none → R.own k ≠ none ∨ w.heap.size ≤ k := by
  have hlt0 : ∀ k g, R.own k = some g → k < w.heap.size := fun k g e => h0.lt k (by rw [e]; simp)
  have z3 := hF3.size
  have hIl : I < W3.heap.size := hq3.lt (.inr (by simp))
  have hQl : Q < W3.heap.size := hq3.lt (.inl rfl)
  have hIt := (show QAI W3 Q (itA (R.al t) ++ ⟨I, .int .i64 c⟩ :: []) from hq3).item
  have hQI : Q ≠ I := fun e => by have := hq3.blk; rw [e, hIt] at this; simp at this
  have hQc : (R.al t = [] ∧ w.heap.size ≤ Q) ∨ (R.al t ≠ [] ∧ Q = R.aq t ∧ R.own Q = some (.aq t)) := by
    rcases hQ3 with ⟨h1, h2'⟩ | ⟨h1, h2', _⟩
    · exact .inl ⟨itA_nil.1 h1, h2'⟩
    · have hne : R.al t ≠ [] := fun e => h1 (itA_nil.2 e)
      rw [h0.fa t, if_neg hne] at h2'
      have e := Option.some.inj h2'
      exact .inr ⟨hne, e.symm, by rw [← e]; exact h0.oa t hne⟩
  obtain ⟨own', hown'⟩ : ∃ own', ownA R.own I Q t = own' := ⟨_, rfl⟩
  have oI : own' I = some (.ai t) := by rw [← hown']; unfold ownA; rw [if_pos rfl]
  have oQ : own' Q = some (.aq t) := by rw [← hown']; unfold ownA; rw [if_neg hQI, if_pos rfl]
  have x1 : ∀ k g, R.own k = some g → own' k = some g := by
    intro k g e
    have hk := hlt0 k g e
    by_cases e1 : k = Q
    · rcases hQc with ⟨_, h3⟩ | ⟨_, _, h3⟩
      · omega
      · rw [e1] at e ⊢; rw [oQ]; rw [h3] at e; exact e
    rw [← hown']; unfold ownA
    rw [if_neg (by omega), if_neg e1]; exact e
  have x2 : ∀ k, own' k ≠ none → R.own k ≠ none ∨ w.heap.size ≤ k := by
    intro k
    rw [← hown']; unfold ownA
    split
    · intro _; exact .inr (by omega)
    split
    · rename_i e; intro _
      rcases hQc with ⟨_, h3⟩ | ⟨_, _, h3⟩
      · exact .inr (by omega)
      · exact .inl (by rw [e, h3]; simp)
    · exact .inl
  have xl : ∀ k, own' k ≠ none → k < W3.heap.size := by
    intro k
    rw [← hown']; unfold ownA
    split
    · intro _; omega
    split
    · intro _; omega
    · intro hk; have := h0.lt k hk; omega
  have G3 : Fm w W3 (TF own' (fun g => g = .m 3 ∨ g = .aq t ∨ g = .ai t)) := hF3.mono (fun k _ hk => by
    rcases hk with rfl | ⟨h1, hk⟩
    · exact ⟨_, x1 _ _ h0.om3, .inl rfl⟩
    · rcases qfA.1 hk with rfl | ⟨x, hx, rfl⟩
      · exact ⟨_, oQ, .inr (.inl rfl)⟩
      · exact ⟨_, x1 _ _ (h0.oi t x hx), .inr (.inr rfl)⟩)
  refine ⟨{ R with fa := updF R.fa (ky t) (some Q), al := setA R.al t (R.al t ++ [⟨I, c⟩]), aq := fun t' => if t' = t then Q else R.aq t', own := own', N := R.N + 1 }, ⟨rfl, rfl, rfl, rfl⟩, ⟨?_, ?_, ?_, ?_, ?_, h0.fw, h0.fp, h0.fs, ?_, ?_, ?_, ?_, ?_, ?_, ?_, h0.nd, h0.good, ?_, x1 _ _ h0.orb, x1 _ _ h0.om0, x1 _ _ h0.om1, x1 _ _ h0.om2, x1 _ _ h0.om3, ?_, ?_, ?_, ?_, ?_, xl⟩, rfl, rfl, rfl, rfl, ?_, x2⟩
  · exact (h0.kBlk G3 x1 (by simp)).trans h0.blk
  · exact h0.mw.kT G3 (x1 _ _ h0.om0) (by simp)
  · obtain ⟨n, h3, h4⟩ := h0.mp
    exact ⟨n, by show n ≤ R.N + 1; omega, h4.kT G3 (x1 _ _ h0.om1) (by simp)⟩
  · obtain ⟨n, h3, h4⟩ := h0.ms
    exact ⟨n, by show n ≤ R.N + 1; omega, h4.kT G3 (x1 _ _ h0.om2) (by simp)⟩
  · exact ⟨n3, hn3, hm3⟩
  · intro t'
    show updF R.fa (ky t) (some Q) (ky t') = if setA R.al t _ t' = [] then none else some (if t' = t then Q else R.aq t')
    unfold updF setA
    by_cases e : t' = t
    · rw [if_pos (by rw [e]), if_pos e, if_neg app_ne, if_pos e]
    · rw [if_neg (by simpa using e), if_neg e, if_neg e]; exact h0.fa t'
  · have := h0.len
    show R.all.length ≤ R.N + 1
    omega
  · intro t'
    show (setA R.al t _ t').length ≤ R.N + 1
    unfold setA
    split
    · have := h0.lenA t; simp; omega
    · have := h0.lenA t'; omega
  · exact fun x hx => h0.kW G3 x1 hx (by simp)
  · exact fun s o hne => h0.kP G3 x1 hne (by simp) (fun _ _ => by simp)
  · exact fun s hne => h0.kS G3 x1 hne (by simp) (fun _ _ => by simp)
  · intro t'
    show setA R.al t _ t' ≠ [] → QAI W3 (if t' = t then Q else R.aq t') (itA (setA R.al t _ t'))
    unfold setA
    by_cases e : t' = t
    · rw [if_pos e, if_pos e]; intro _; rw [itA_app]; exact hq3
    · rw [if_neg e, if_neg e]
      intro hne
      exact h0.kA G3 x1 hne (by simpa using e) (by simpa using e)
  · intro t' a
    show a ∈ setA R.al t _ t' → _
    unfold setA
    split
    · rename_i e; intro ha
      rcases List.mem_append.1 ha with ha | ha
      · have := h0.goodA t a ha
        exact ⟨by rw [e]; exact ht, this.2⟩
      · obtain rfl : a = _ := by simpa using ha
        exact ⟨by rw [e]; exact ht, hc⟩
    · exact h0.goodA t' a
  · intro x hx
    have := h0.ow x hx
    exact ⟨x1 _ _ this.1, x1 _ _ this.2.1, x1 _ _ this.2.2⟩
  · exact fun s o hne => x1 _ _ (h0.op s o hne)
  · exact fun s hne => x1 _ _ (h0.os s hne)
  · intro t'
    show setA R.al t _ t' ≠ [] → own' (if t' = t then Q else R.aq t') = _
    unfold setA
    by_cases e : t' = t
    · rw [if_pos e, if_pos e, e]; intro _; exact oQ
    · rw [if_neg e, if_neg e]; intro hne; exact x1 _ _ (h0.oa t' hne)
  · intro t' a
    show a ∈ setA R.al t _ t' → _
    unfold setA
    split
    · rename_i e; intro ha
      rcases List.mem_append.1 ha with ha | ha
      · rw [e]; exact x1 _ _ (h0.oi t a ha)
      · obtain rfl : a = _ := by simpa using ha
        rw [e]; exact oI
    · intro ha; exact x1 _ _ (h0.oi t' a ha)
  · exact G3.mono (fun k hk ⟨g, h1, _⟩ => (x2 k (by rw [h1]; simp)).resolve_right (by omega))
theorem alPush_fin {w W3 : World} {R : Rm} {I Q n3 : Nat} {t c : Int} (h0 : RmAt w R) (ht : i64 t) (hc : i64 c)
    (hm3 : MAt W3 3 R.m3 n3 (updF R.fa (ky t) (some Q))) (hn3 : n3 ≤ R.N + 1) (hq3 : QAI W3 Q (itA (R.al t) ++ [⟨I, .int .i64 c⟩])) (hF3 : Fm w W3 (fun k => k = R.m3 ∨ (itA (R.al t) ≠ [] ∧ qf Q (itA (R.al t)) k)))
    (hQ3 : (itA (R.al t) = [] ∧ w.heap.size ≤ Q) ∨ (itA (R.al t) ≠ [] ∧ R.fa (ky t) = some Q ∧ QAI w Q (itA (R.al t)))) (hI : w.heap.size ≤ I) :
    ∃ R', RmAt W3 R' ∧ R'.rb = R.rb ∧ R'.all = R.all ∧ R'.al = setA R.al t (R.al t ++ [⟨I, c⟩]) ∧ R'.N = R.N + 1 ∧ Fm w W3 (fun k => R.own k ≠ none) ∧ ∀ k, R'.own k ≠ none → R.own k ≠ none ∨ w.heap.size ≤ k := by
  obtain ⟨R', _, h⟩ := alPush_finM h0 ht hc hm3 hn3 hq3 hF3 hQ3 hI
  exact ⟨R', h⟩
/-- The alerts of one thread are fewer. -/
theorem alLess_fin {w W3 : World} {R : Rm} {n3 : Nat} {t : Int} {l : List Al} {fa' : Lit → Option Nat} (h0 : RmAt w R) (hsub : ∀ a ∈ l, a ∈ R.al t) (hlen : l.length ≤ (R.al t).length) (hne0 : R.al t ≠ [] ∨ l = [])
    (hm3 : MAt W3 3 R.m3 n3 fa') (hn3 : n3 ≤ R.N) (e1 : l = [] → fa' (ky t) = none) (e2 : l ≠ [] → fa' (ky t) = some (R.aq t)) (e3 : ∀ k, k ≠ ky t → fa' k = R.fa k) (hq3 : l ≠ [] → QAI W3 (R.aq t) (itA l)) (hF3 : Fm w W3 (fun k => k = R.m3 ∨ (R.al t ≠ [] ∧ qf (R.aq t) (itA l) k))) :
    ∃ R', RmAt W3 R' ∧ R'.rb = R.rb ∧ R'.all = R.all ∧ R'.al = setA R.al t l ∧ R'.N = R.N ∧ R'.own = R.own ∧ Fm w W3 (fun k => R.own k ≠ none) := by
  have z3 := hF3.size
  have xx : ∀ k g, R.own k = some g → R.own k = some g := fun _ _ e => e
  have G3 : Fm w W3 (TF R.own (fun g => g = .m 3 ∨ g = .aq t ∨ g = .ai t)) := hF3.mono (fun k _ hk => by
    rcases hk with rfl | ⟨h1, hk⟩
    · exact ⟨_, h0.om3, .inl rfl⟩
    · rcases qfA.1 hk with rfl | ⟨x, hx, rfl⟩
      · exact ⟨_, h0.oa t h1, .inr (.inl rfl)⟩
      · exact ⟨_, h0.oi t x (hsub x hx), .inr (.inr rfl)⟩)
  refine ⟨{ R with fa := fa', al := setA R.al t l }, ⟨?_, ?_, ?_, ?_, ⟨n3, hn3, hm3⟩, h0.fw, h0.fp, h0.fs, ?_, h0.len, ?_, ?_, ?_, ?_, ?_, h0.nd, h0.good, ?_, h0.orb, h0.om0, h0.om1, h0.om2, h0.om3, h0.ow, h0.op, h0.os, ?_, ?_, ?_⟩, rfl, rfl, rfl, rfl, rfl, ?_⟩
  · exact (h0.kBlk G3 xx (by simp)).trans h0.blk
  · exact h0.mw.kT G3 h0.om0 (by simp)
  · obtain ⟨n, h3, h4⟩ := h0.mp
    exact ⟨n, h3, h4.kT G3 h0.om1 (by simp)⟩
  · obtain ⟨n, h3, h4⟩ := h0.ms
    exact ⟨n, h3, h4.kT G3 h0.om2 (by simp)⟩
  · intro t'
    show fa' (ky t') = if setA R.al t l t' = [] then none else some (R.aq t')
    unfold setA
    by_cases e : t' = t
    · subst e
      rw [if_pos rfl]
      by_cases hl : l = []
      · rw [if_pos hl, e1 hl]
      · rw [if_neg hl, e2 hl]
    · rw [if_neg e, e3 _ (by simpa using e)]; exact h0.fa t'
  · intro t'
    show (setA R.al t l t').length ≤ R.N
    unfold setA
    split
    · have := h0.lenA t; omega
    · exact h0.lenA t'
  · exact fun x hx => h0.kW G3 xx hx (by simp)
  · exact fun s o hne => h0.kP G3 xx hne (by simp) (fun _ _ => by simp)
  · exact fun s hne => h0.kS G3 xx hne (by simp) (fun _ _ => by simp)
  · intro t'
    show setA R.al t l t' ≠ [] → QAI W3 (R.aq t') (itA (setA R.al t l t'))
    unfold setA
    by_cases e : t' = t
    · subst e; rw [if_pos rfl]; exact hq3
    · rw [if_neg e]
      intro hne
      exact h0.kA G3 xx hne (by simpa using e) (by simpa using e)
  · intro t' a
    show a ∈ setA R.al t l t' → _
    unfold setA
    split
    · rename_i e; intro ha; rw [e]; exact h0.goodA t a (hsub a ha)
    · exact h0.goodA t' a
  · intro t'
    show setA R.al t l t' ≠ [] → R.own (R.aq t') = _
    unfold setA
    by_cases e : t' = t
    · subst e; rw [if_pos rfl]
      intro hl
      exact h0.oa t' (hne0.resolve_right hl)
    · rw [if_neg e]; exact h0.oa t'
  · intro t' a
    show a ∈ setA R.al t l t' → _
    unfold setA
    split
    · rename_i e; intro ha; rw [e]; exact h0.oi t a (hsub a ha)
    · exact h0.oi t' a
  · intro k hk
    have := h0.lt k hk
    omega
  · exact G3.mono (fun k _ ⟨g, h1, _⟩ => by rw [h1]; simp)
end Go.Proofs.Ythknnmllibdggaa
