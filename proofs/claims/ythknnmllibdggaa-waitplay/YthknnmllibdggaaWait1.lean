/- What New, Wait, Len and Where of package wait answer. -/
import Derived.Test.YthknnmllibdggaaAlertF
namespace Go.Proofs.Ythknnmllibdggaa
open Go.RowKit Go.Sort
def okN (n : Int) : Bool := decide (1 ≤ n) && decide (n ≤ 2305843009213693951)
def okO (o : Int) : Bool := decide (0 ≤ o) && decide (o < 4096)
theorem okN_i64 {n : Int} (h : okN n = true) : i64 n := by unfold okN at h; simp at h; unfold i64; omega
theorem okO_i64 {n : Int} (h : okO n = true) : i64 n := by unfold okO at h; simp at h; unfold i64; omega
theorem isNumber_any (n : Int) (w : World) : Calls Try.prog 39 #[.int .i64 n] w fun e w' => e = .returned (.bool (okN n)) ∧ w' = w := by
  by_cases h1 : 1 ≤ n <;> by_cases h2 : n ≤ 2305843009213693951 <;>
  · go_enter Try.func39, Try.ntmps39
    go_wp2
    go_ret
    exact ⟨by simp [okN, h1, h2], rfl⟩
theorem canBe_any (s o : Int) (w : World) : Calls Try.prog 40 #[.agg #[.int .i64 s, .int .i64 o]] w fun e w' => e = .returned (.bool (okN s && okO o)) ∧ Below w.heap.size w w' := by
  have hb : Below w.heap.size w (w.alloc (.cells #[.int .i64 s, .int .i64 o] 72)) := by go_grown
  have HI := Lib.hid (isNumber_any s)
  by_cases h0 : okN s = true
  · rw [h0] at HI
    rcases (by omega : (0 ≤ o ∧ o < 4096) ∨ (0 ≤ o ∧ ¬ o < 4096) ∨ (¬ 0 ≤ o ∧ o < 4096)) with ⟨h1, h2⟩ | ⟨h1, h2⟩ | ⟨h1, h2⟩
    all_goals
      go_enter Try.func40, Try.ntmps40
      go_wp2_with (go_at_call 39; refine (HI.out _).mono ?_; rintro e w2 ⟨rfl, hw2⟩; rw [hw2]; clear hw2 w2)
      go_ret
      exact ⟨by simp [okO, h0, h1, h2], hb⟩
  · have h0' : okN s = false := by simpa using h0
    rw [h0'] at HI
    go_enter Try.func40, Try.ntmps40
    go_wp2_with (go_at_call 39; refine (HI.out _).mono ?_; rintro e w2 ⟨rfl, hw2⟩; rw [hw2]; clear hw2 w2)
    go_ret
    exact ⟨by simp [h0'], hb⟩
/-- A waiting: thread, segment, offset. -/
abbrev Who := Int × Int × Int
def ab (x : Wt) : Who := (x.th, x.seg, x.off)
/-- Rooms in memory that are these: who waits, in an order in which those of one segment came; alerts. -/
def RA (w : World) (rb : Nat) (F : Nat → Prop) (all : List Who) (al : Int → List Int) (N : Nat) : Prop :=
  ∃ R, RmAt w R ∧ R.rb = rb ∧ R.all.map ab = all ∧ (∀ t, (R.al t).map (·.c) = al t) ∧ R.N ≤ N ∧ ∀ k, R.own k ≠ none → F k
/-- What a call leaves. -/
def Nx (w w' : World) (rb : Nat) (F : Nat → Prop) (all : List Who) (al : Int → List Int) (N : Nat) : Prop :=
  ∃ F', RA w' rb F' all al N ∧ Fm w w' F ∧ (∀ k, F' k → F k ∨ w.heap.size ≤ k) ∧ ∀ k, F' k → k < w'.heap.size
theorem RA.mono {w : World} {rb : Nat} {F : Nat → Prop} {all : List Who} {al : Int → List Int} {N N' : Nat} (h : RA w rb F all al N) (hN : N ≤ N') : RA w rb F all al N' := by
  obtain ⟨R, h1, h2, h3, h4, h5, h6⟩ := h
  exact ⟨R, h1, h2, h3, h4, Nat.le_trans h5 hN, h6⟩
theorem RA.same {w w' : World} {rb : Nat} {F : Nat → Prop} {all : List Who} {al : Int → List Int} {N : Nat} (h : RA w rb F all al N) (hs : w.heap.size ≤ w'.heap.size) (hk : ∀ k, k < w.heap.size → F k → w'.heap[k]? = w.heap[k]?) : RA w' rb F all al N := by
  obtain ⟨R, h1, h2, h3, h4, h5, h6⟩ := h
  exact ⟨R, h1.same hs (fun k hk' => hk k (h1.lt k hk') (h6 k hk')), h2, h3, h4, h5, h6⟩
theorem RA.below {w w' : World} {rb : Nat} {F : Nat → Prop} {all : List Who} {al : Int → List Int} {N : Nat} (h : RA w rb F all al N) (hb : Below w.heap.size w w') : RA w' rb F all al N := h.same hb.size (fun k hk _ => hb.block k hk)
theorem RA.len {w : World} {rb : Nat} {F : Nat → Prop} {all : List Who} {al : Int → List Int} {N : Nat} (h : RA w rb F all al N) : all.length ≤ N := by
  obtain ⟨R, h1, h2, h3, h4, h5, h6⟩ := h
  rw [← h3, List.length_map]; have := h1.len; omega
theorem RA.nd {w : World} {rb : Nat} {F : Nat → Prop} {all : List Who} {al : Int → List Int} {N : Nat} (h : RA w rb F all al N) : (all.map (·.1)).Nodup := by
  obtain ⟨R, h1, h2, h3, h4, h5, h6⟩ := h
  rw [← h3, List.map_map]; exact h1.nd
/-- Nothing but new memory: the same rooms. -/
theorem Nx.still {w w' : World} {rb : Nat} {F : Nat → Prop} {all : List Who} {al : Int → List Int} {N N' : Nat} (h : RA w rb F all al N) (hb : Below w.heap.size w w') (hN : N ≤ N') : Nx w w' rb F all al N' := by
  obtain ⟨R, h1, h2, h3, h4, h5, h6⟩ := h
  have h1' := h1.below hb
  exact ⟨fun k => R.own k ≠ none, ⟨R, h1', h2, h3, h4, by omega, fun _ h => h⟩, Fm.of_below hb F, fun k hk => .inl (h6 k hk), fun k hk => h1'.lt k hk⟩
theorem Nx.of {w w' : World} {rb N : Nat} {F : Nat → Prop} {all : List Who} {al : Int → List Int} {R R' : Rm} (hR : ∀ k, R.own k ≠ none → F k) (h1 : RmAt w' R') (h2 : R'.rb = rb) (h3 : R'.all.map ab = all) (h4 : ∀ t, (R'.al t).map (·.c) = al t) (h5 : R'.N ≤ N) (h6 : Fm w w' (fun k => R.own k ≠ none)) (h7 : ∀ k, R'.own k ≠ none → R.own k ≠ none ∨ w.heap.size ≤ k) : Nx w w' rb F all al N :=
  ⟨fun k => R'.own k ≠ none, ⟨R', h1, h2, h3, h4, h5, fun _ h => h⟩, h6.mono (fun k _ hk => hR k hk), fun k hk => (h7 k hk).imp (hR k) id, fun k hk => h1.lt k hk⟩
/-- Ahead of a call memory was made. -/
theorem Nx.behind {w w1 w' : World} {rb N : Nat} {F : Nat → Prop} {all : List Who} {al : Int → List Int} (hb : Below w.heap.size w w1) (h : Nx w1 w' rb F all al N) : Nx w w' rb F all al N := by
  obtain ⟨F', h1, h2, h3, h4⟩ := h
  refine ⟨F', h1, (Fm.of_below hb F).trans h2 (fun _ _ h => h) (fun _ _ h => h), fun k hk => (h3 k hk).imp id (fun h => Nat.le_trans hb.size h), h4⟩
theorem New_any (w : World) : Calls Try.prog 9 #[] w fun e w' => ∃ rb F, e = .returned (pv rb) ∧ RA w' rb F [] (fun _ => []) 0 ∧ Below w.heap.size w w' ∧ (∀ k, F k → w.heap.size ≤ k) ∧ ∀ k, F k → k < w'.heap.size := by
  have hmm := @run_makeMap Try.prog
  go_enter Try.func9, Try.ntmps9
  go_wp2
  go_ret
  obtain ⟨W1, hW1⟩ : ∃ W1, w.alloc (.map #[] 0) = W1 := ⟨_, rfl⟩
  obtain ⟨W2, hW2⟩ : ∃ W2, W1.alloc (.map #[] 0) = W2 := ⟨_, rfl⟩
  obtain ⟨W3, hW3⟩ : ∃ W3, W2.alloc (.map #[] 0) = W3 := ⟨_, rfl⟩
  obtain ⟨W4, hW4⟩ : ∃ W4, W3.alloc (.map #[] 0) = W4 := ⟨_, rfl⟩
  rw [hW1, hW2, hW3, hW4]
  have s1 : W1.heap.size = w.heap.size + 1 := by rw [← hW1]; simp
  have s2 : W2.heap.size = w.heap.size + 2 := by rw [← hW2]; simp; omega
  have s3 : W3.heap.size = w.heap.size + 3 := by rw [← hW3]; simp; omega
  have s4 : W4.heap.size = w.heap.size + 4 := by rw [← hW4]; simp; omega
  have b1 : Below w.heap.size w W1 := by rw [← hW1]; exact (Below.refl _ _).alloc (Nat.le_refl _) _
  have b2 : Below W1.heap.size W1 W2 := by rw [← hW2]; exact (Below.refl _ _).alloc (Nat.le_refl _) _
  have b3 : Below W2.heap.size W2 W3 := by rw [← hW3]; exact (Below.refl _ _).alloc (Nat.le_refl _) _
  have b4 : Below W3.heap.size W3 W4 := by rw [← hW4]; exact (Below.refl _ _).alloc (Nat.le_refl _) _
  have m0 : MAt W1 3 w.heap.size 0 (fun _ => none) := by rw [← hW1]; exact MAt.made _ _
  have m1 : MAt W2 72 W1.heap.size 0 (fun _ => none) := by rw [← hW2]; exact MAt.made _ _
  have m2 : MAt W3 3 W2.heap.size 0 (fun _ => none) := by rw [← hW3]; exact MAt.made _ _
  have m3 : MAt W4 3 W3.heap.size 0 (fun _ => none) := by rw [← hW4]; exact MAt.made _ _
  rw [s1] at m1
  rw [s2] at m2
  rw [s3] at m3
  have e4 : W4.heap.size = w.heap.size + 1 + 1 + 1 + 1 := by omega
  obtain ⟨W5, hW5⟩ : ∃ W5, W4.alloc (.cells #[.map (some w.heap.size), .map (some (w.heap.size + 1)), .map (some (w.heap.size + 1 + 1)), .map (some (w.heap.size + 1 + 1 + 1))] 64) = W5 := ⟨_, rfl⟩
  rw [hW5]
  have b5 : Below W4.heap.size W4 W5 := by rw [← hW5]; exact (Below.refl _ _).alloc (Nat.le_refl _) _
  have s5 : W5.heap.size = w.heap.size + 5 := by rw [← hW5]; simp; omega
  have hb5 : W5.heap[w.heap.size + 4]? = some (.cells #[.map (some w.heap.size), .map (some (w.heap.size + 1)), .map (some (w.heap.size + 2)), .map (some (w.heap.size + 3))] 64 (0, 0)) := by rw [← s4, ← hW5]; exact heap_new _ _
  have B : Below w.heap.size w W5 := (((b1.trans (b2.mono (by omega))).trans (b3.mono (by omega))).trans (b4.mono (by omega))).trans (b5.mono (by omega))
  obtain ⟨own, hown⟩ : ∃ own : Nat → Option Tag, own = fun k => if k = w.heap.size + 4 then some .rb else if k = w.heap.size then some (.m 0) else if k = w.heap.size + 1 then some (.m 1) else if k = w.heap.size + 2 then some (.m 2) else if k = w.heap.size + 3 then some (.m 3) else none := ⟨_, rfl⟩
  have hlt : ∀ k, own k ≠ none → w.heap.size ≤ k ∧ k < w.heap.size + 5 := by
    intro k
    rw [hown]
    simp only
    split
    · intro _; omega
    split
    · intro _; omega
    split
    · intro _; omega
    split
    · intro _; omega
    split
    · intro _; omega
    · intro h; exact absurd rfl h
  have hRm : RmAt W5 ⟨w.heap.size + 4, w.heap.size, w.heap.size + 1, w.heap.size + 2, w.heap.size + 3, fun _ => none, fun _ => none, fun _ => none, fun _ => none, [], fun _ _ => 0, fun _ => 0, fun _ => [], fun _ => 0, own, 0⟩ := by
    refine ⟨hb5, ?_, ⟨0, Nat.le_refl _, ?_⟩, ⟨0, Nat.le_refl _, ?_⟩, ⟨0, Nat.le_refl _, ?_⟩, fun _ => rfl, fun _ _ _ _ => (if_pos rfl).symm, fun _ => (if_pos rfl).symm, fun _ => (if_pos rfl).symm, Nat.le_refl _, fun _ => Nat.le_refl _, fun x hx => absurd hx (by simp), fun _ _ h => absurd rfl h, fun _ h => absurd rfl h, fun _ h => absurd rfl h, List.nodup_nil, fun x hx => absurd hx (by simp), fun _ x hx => absurd hx (by simp), ?_, ?_, ?_, ?_, ?_, fun x hx => absurd hx (by simp), fun _ _ h => absurd rfl h, fun _ h => absurd rfl h, fun _ h => absurd rfl h, fun _ x hx => absurd hx (by simp), fun k hk => by have := hlt k hk; omega⟩
    · exact m0.same (((b2.trans (b3.mono (by omega))).trans (b4.mono (by omega))).trans (b5.mono (by omega)) |>.block _ (by omega))
    · exact m1.same ((b3.trans (b4.mono (by omega))).trans (b5.mono (by omega)) |>.block _ (by omega))
    · exact m2.same (b4.trans (b5.mono (by omega)) |>.block _ (by omega))
    · exact m3.same (b5.block _ (by omega))
    all_goals (show own _ = _; rw [hown]; simp)
  refine ⟨w.heap.size + 4, fun k => own k ≠ none, ?_, ⟨_, hRm, rfl, rfl, fun _ => rfl, Nat.le_refl _, fun _ h => h⟩, B, fun k hk => (hlt k hk).1, fun k hk => by have := hlt k hk; omega⟩
  simp
end Go.Proofs.Ythknnmllibdggaa
