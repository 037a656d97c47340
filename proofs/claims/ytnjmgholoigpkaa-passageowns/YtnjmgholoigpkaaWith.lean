/- What With of package label answers, for every right label, category and level. -/
import Derived.Test.YtnjmgholoigpkaaMake2
import Derived.Test.YtnjmgholoigpkaaMixed
namespace Go.Proofs.Ytnjmgholoigpkaa
open Go.RowKit Go.Sort Go.Shelf

/- Plain facts. -/
def oneL (c l : Int) : Lab := ⟨0, none, 0, [(c, l)]⟩
def withF (A : Lab) (cat level : Int) (c : Int) : Int := if (c == cat) = true then level else atS A.d A.xs c
def rwithS (A : Lab) (cat level : Int) : List (Int × Int) := shortS A.d (rowS (withF A cat level) (namedS [A, oneL cat level]))
def rest (cat : Int) (xs : List (Int × Int)) : List (Int × Int) := xs.filter fun x => x.1 != cat
theorem rest_le (cat : Int) (xs : List (Int × Int)) : (rest cat xs).length ≤ xs.length := List.length_filter_le _ _
theorem rest_snoc (cat : Int) (xs : List (Int × Int)) (k : Nat) (h : k < xs.length) : rest cat (xs.take (k + 1)) = if (xs[k].1 != cat) = true then rest cat (xs.take k) ++ [xs[k]] else rest cat (xs.take k) := by
  unfold rest
  rw [List.take_succ_eq_append_getElem h, List.filter_append]
  by_cases h : (xs[k].1 != cat) = true <;> simp [h]
theorem rise_diff : ∀ {l : Int} {xs : List (Int × Int)}, Rise l xs → Diff xs
  | _, [], _ => List.Pairwise.nil
  | _, x :: _, h => List.Pairwise.cons (fun y hy e => by have := h.2.gt y hy; omega) (rise_diff h.2)
theorem with_diff {xs : List (Int × Int)} (h : Rise 0 xs) (cat level : Int) : Diff (rest cat xs ++ [(cat, level)]) := by
  unfold Diff
  rw [List.pairwise_append]
  refine ⟨(rise_diff h).sublist List.filter_sublist, List.pairwise_singleton _ _, fun x hx y hy => ?_⟩
  rw [List.mem_singleton.1 hy]
  simpa using (List.mem_filter.1 hx).2
theorem at_mem {d : Int} {xs : List (Int × Int)} (h : Diff xs) {x : Int × Int} (hx : x ∈ xs) : atS d xs x.1 = x.2 := by
  induction xs with
  | nil => simp at hx
  | cons y ys ih =>
    simp only [atS]
    rcases List.mem_cons.1 hx with rfl | hx
    · simp
    · have := (List.pairwise_cons.1 h).1 x hx
      rw [if_neg (by simpa using this)]
      exact ih (List.pairwise_cons.1 h).2 hx
theorem rise_of {l : Int} {zs : List (Int × Int)} (h : zs.Pairwise fun x y => x.1 < y.1) (hl : ∀ x ∈ zs, l < x.1) : Rise l zs := by
  induction zs generalizing l with
  | nil => trivial
  | cons z zs ih => exact ⟨hl z (List.mem_cons_self ..), ih (List.pairwise_cons.1 h).2 (fun x hx => (List.pairwise_cons.1 h).1 x hx)⟩
theorem sorted_rise {zs xs : List (Int × Int)} (hp : zs.Perm xs) (hd : Diff xs) (hs : SortedC zs) (h0 : ∀ x ∈ xs, 0 < x.1) : Rise 0 zs := by
  have hd' : Diff zs := (hp.pairwise_iff (fun h => Ne.symm h)).2 hd
  refine rise_of (List.pairwise_iff_getElem.2 fun i j hi hj hij => ?_) (fun x hx => h0 x (hp.mem_iff.1 hx))
  have h1 := hs i j hij hj
  have h2 : zs[i].1 ≠ zs[j].1 := List.pairwise_iff_getElem.1 hd' i j _ _ hij
  omega
theorem with_named {A : Lab} {cat level c : Int} : c ∉ namedS [A, oneL cat level] → c ≠ cat ∧ atS A.d A.xs c = A.d := fun hc =>
  ⟨fun e => hc (by rw [e]; exact named2_right (A := A) (B := oneL cat level) (x := (cat, level)) (List.mem_singleton.2 rfl)), at_out fun x hx e => hc (by rw [← e]; exact named2_left hx)⟩
theorem rwith_at {A : Lab} (ha : Rise 0 A.xs) {cat level : Int} (h0 : 0 < cat) (c : Int) : atS A.d (rwithS A cat level) c = withF A cat level c := by
  have hb : Rise 0 (oneL cat level).xs := ⟨h0, trivial⟩
  unfold rwithS
  rw [at_short (rise_named2 ha hb), at_row]
  split
  · rfl
  · next hc =>
    obtain ⟨h1, h2⟩ := with_named hc
    unfold withF
    rw [if_neg (by simpa using h1), h2]
theorem with_eq {A : Lab} (ha : Rise 0 A.xs) {cat level : Int} (h0 : 0 < cat) {zs : List (Int × Int)} (hp : zs.Perm (rest cat A.xs ++ [(cat, level)])) (hs : SortedC zs) : shortS A.d zs = rwithS A cat level := by
  have hd := with_diff ha cat level
  have hd' : Diff zs := (hp.pairwise_iff (fun h => Ne.symm h)).2 hd
  have hr : Rise 0 zs := sorted_rise hp hd hs (fun x hx => by
    rcases List.mem_append.1 hx with h | h
    · exact ha.gt x (List.mem_filter.1 h).1
    · rw [List.mem_singleton.1 h]; exact h0)
  have hb : Rise 0 (oneL cat level).xs := ⟨h0, trivial⟩
  refine same_of_at (d := A.d) (l := 0) (Rise.filter hr) (Rise.filter (rise_named2 ha hb)) (nodef_short _ _) (nodef_short _ _) (fun c _ => ?_)
  rw [at_short hr]
  refine Eq.trans ?_ (rwith_at ha h0 c).symm
  unfold withF
  by_cases hc : c = cat
  · rw [if_pos (by simpa using hc), hc]
    exact at_mem hd' (x := (cat, level)) (hp.mem_iff.2 (List.mem_append.2 (.inr (List.mem_singleton.2 rfl))))
  · rw [if_neg (by simpa using hc)]
    by_cases hx : ∃ x ∈ A.xs, x.1 = c
    · obtain ⟨x, hx, rfl⟩ := hx
      rw [at_mem (rise_diff ha) hx]
      exact at_mem hd' (hp.mem_iff.2 (List.mem_append.2 (.inl (List.mem_filter.2 ⟨hx, by simpa using hc⟩))))
    · rw [at_out (xs := A.xs) (fun x h e => hx ⟨x, h, e⟩), at_out (xs := zs) (fun x h e => ?_)]
      rcases List.mem_append.1 (hp.mem_iff.1 h) with h | h
      · exact hx ⟨x, (List.mem_filter.1 h).1, e⟩
      · rw [List.mem_singleton.1 h] at e; exact hc e.symm

/-- What With answers: the default's level, the row, the error. -/
def wOk (cat level : Int) : Bool := can (cat, level)
def wD (A : Lab) (cat level : Int) : Int := if wOk cat level = true then fitD A.d (rwithS A cat level) else 0
def wL (A : Lab) (cat level : Int) : List (Int × Int) := if wOk cat level = true then fitL (rwithS A cat level) else []
def wE (A : Lab) (cat level : Int) : Int := if wOk cat level = true then fitE (rwithS A cat level) else 1

theorem Make_with (A : Lab) (cat level : Int) (b off cap : Nat) (w : World) (hr : rightS A.d A.xs = true) (hcx : ∀ x ∈ A.xs, can x = true) (hc : CatsAt w (some ⟨b, off, none⟩) (rest cat A.xs ++ [(cat, level)])) :
    Calls Try.prog 48 #[.int .i64 A.d, .slice (some ⟨b, off, none⟩) ((rest cat A.xs).length + 1) cap] w fun e w' => ∃ v, e = .returned (.tuple #[.agg #[.int .i64 (wD A cat level), v], .int .i64 (wE A cat level)]) ∧ Rw w.heap.size w' v (wL A cat level) ∧ Below w.heap.size w w' := by
  obtain ⟨rx, _, h16, d0, d5⟩ := right_rise hr
  have hl : lev A.d = true := by simp [lev, d0, d5]
  have hle := rest_le cat A.xs
  have e : (rest cat A.xs ++ [(cat, level)]).length = (rest cat A.xs).length + 1 := by simp
  by_cases h : wOk cat level = true
  · have h0 : 0 < cat := by simp [wOk, can, isCt] at h; omega
    have ha : ((rest cat A.xs ++ [(cat, level)]).any fun x => !can x) = false := by
      rw [List.any_eq_false]
      intro x hx
      rcases List.mem_append.1 hx with hx | hx
      · simp [hcx x (List.mem_filter.1 hx).1]
      · rw [List.mem_singleton.1 hx]; have : can (cat, level) = true := h; simp [this]
    have := Make_apart2 A.d b off cap (rest cat A.xs ++ [(cat, level)]) w hl ha (with_diff rx cat level) (by rw [e]; omega) hc
    rw [e] at this
    refine this.mono ?_
    rintro e' w' ⟨v, zs, hp, hs, rfl, hR, hb⟩
    rw [with_eq rx h0 hp hs] at hR ⊢
    exact ⟨v, by simp [wD, wE, h], by simp only [wL, h, if_true]; exact hR, hb⟩
  · have ha : ((rest cat A.xs ++ [(cat, level)]).any fun x => !can x) = true := by
      rw [List.any_eq_true]
      have hcf : can (cat, level) = false := by simpa [wOk] using h
      exact ⟨(cat, level), List.mem_append.2 (.inr (List.mem_singleton.2 rfl)), by simp [hcf]⟩
    have := Make_bad A.d (some ⟨b, off, none⟩) cap (rest cat A.xs ++ [(cat, level)]) w hl ha (by rw [e]; unfold maxLen; omega) hc
    rw [e] at this
    refine this.mono ?_
    rintro e' w' ⟨rfl, hb⟩
    exact ⟨.slice none 0 0, by simp [wD, wE, h], by simp only [wL, h]; exact .inl ⟨rfl, rfl⟩, hb⟩

theorem with_out {w : World} {B : Nat} {v : Value} {zs : List (Int × Int)} {c l : Int} (h : w.ownsRow B 50 2 v (zs.length + 1) (flat zs ++ [.int .i64 c, .int .i64 l])) (g cap : Nat) (hv : v = .slice (some ⟨g, 0, none⟩) (zs.length + 1) cap) : CatsAt w (some ⟨g, 0, none⟩) (zs ++ [(c, l)]) := by
  have h' : w.ownsRow B 50 2 v (zs ++ [(c, l)]).length (flat (zs ++ [(c, l)])) := by
    rw [List.length_append, flat_append]; exact h
  obtain ⟨p, cap', e, hc, _⟩ := own_out h'
  rw [hv, Value.slice.injEq] at e
  obtain ⟨rfl, _, _⟩ := e
  exact hc

set_option maxRecDepth 100000 in
set_option maxHeartbeats 1000000 in
theorem With_any (A : Lab) (cat level : Int) (w : World) (hr : rightS A.d A.xs = true) (hcx : ∀ x ∈ A.xs, can x = true) (hc : CatsAt w A.p A.xs) :
    Calls Try.prog 43 #[.agg #[.int .i64 A.d, .slice A.p A.xs.length A.cap], .int .i64 cat, .int .i64 level] w fun e w' => ∃ v, e = .returned (.tuple #[.agg #[.int .i64 (wD A cat level), v], .int .i64 (wE A cat level)]) ∧ Rw w.heap.size w' v (wL A cat level) ∧ Below w.heap.size w w' := by
  obtain ⟨i0, hi, hz0, hz1, hz2⟩ := info_parts info30
  have h16 := (right_rise hr).2.2.1
  have HM : Hid (∀ (b cap : Nat) (W : World), CatsAt W (some ⟨b, 0, none⟩) (rest cat A.xs ++ [(cat, level)]) → Calls Try.prog 48 #[.int .i64 A.d, .slice (some ⟨b, 0, none⟩) ((rest cat A.xs).length + 1) cap] W fun e w' => ∃ v, e = .returned (.tuple #[.agg #[.int .i64 (wD A cat level), v], .int .i64 (wE A cat level)]) ∧ Rw W.heap.size w' v (wL A cat level) ∧ Below W.heap.size W w') := fun b cap W h => Make_with A cat level b 0 cap W hr hcx h
  obtain ⟨fd, hfd⟩ : ∃ fd, fd = wD A cat level := ⟨_, rfl⟩
  obtain ⟨fe, hfe⟩ : ∃ fe, fe = wE A cat level := ⟨_, rfl⟩
  obtain ⟨fl, hfl⟩ : ∃ fl, fl = wL A cat level := ⟨_, rfl⟩
  rw [← hfd, ← hfe, ← hfl] at HM ⊢
  clear hr hcx hfd hfe hfl
  obtain ⟨W0, hW0⟩ : ∃ W0, W0 = (w.alloc (.cells #[.int .i64 A.d, .slice A.p A.xs.length A.cap] 24)).alloc (.cells #[.int .i64 0, .slice none 0 0] 24) := ⟨_, rfl⟩
  have hB0 : Below w.heap.size w W0 := by rw [hW0]; go_grown
  have hs0 : W0.heap.size = w.heap.size + 2 := by rw [hW0]; simp
  have a0 : W0.cell? ⟨w.heap.size, 0, none⟩ = some (.int .i64 A.d) := by rw [hW0]; simp [go_sem]
  have c0 : W0.cell? ⟨w.heap.size + 1, 0, none⟩ = some (.int .i64 0) := by rw [hW0]; simp [go_sem]
  have c1 : W0.cell? ⟨w.heap.size + 1, 1, none⟩ = some (.slice none 0 0) := by rw [hW0]; simp [go_sem]
  have cf : ∀ o, W0.frozen? ⟨w.heap.size + 1, o, none⟩ = false := fun o => by rw [hW0]; simp [go_sem]
  go_enter Try.func43, Try.ntmps43
  go_wp2
  rw [← hW0]
  clear hW0
  go_loopw [8, 14] (fun r i wr => ∃ k : Nat, k ≤ A.xs.length ∧ i = .int .i64 k ∧ wr.ownsRow (w.heap.size + 2) 50 2 r (rest cat (A.xs.take k)).length (flat (rest cat (A.xs.take k))) ∧ Below (w.heap.size + 2) W0 wr) (fun _ i _ => A.xs.length - (intOf i).toNat)
  case atStart => exact ⟨0, Nat.zero_le _, rfl, World.ownsRow_nil _ _ _ _, Below.refl _ _⟩
  case round =>
    obtain ⟨k, hk, rfl, hown, hb⟩ := hrel
    have hB : Below w.heap.size w wr := hB0.trans (hb.mono (by omega))
    have hz : w.heap.size + 2 ≤ wr.heap.size := by have := hb.size; omega
    have m0 := (hb.cell (p := ⟨w.heap.size, 0, none⟩) (by simp)).trans a0
    by_cases hlt : k < A.xs.length
    · obtain ⟨b, off, hp, hbl, e0, e1⟩ := hc.get hB (Below.refl _ _) (Nat.le_refl _) k hlt
      clear hc
      have hs := rest_snoc cat A.xs k hlt
      have hle := rest_le cat (A.xs.take k)
      have hle2 : (A.xs.take k).length ≤ k := List.length_take_le _ _
      rw [hp]
      by_cases h3 : (A.xs[k].1 != cat) = true
      · rw [if_pos h3] at hs
        have HS : Hid (rest cat (A.xs.take (k + 1)) = rest cat (A.xs.take k) ++ [A.xs[k]]) := hs
        clear hs
        have hownA := (hown.alloc (.cells #[.int .i64 A.xs[k].1, .int .i64 A.xs[k].2] 50)).alloc (.cells #[.int .i64 A.xs[k].1, .int .i64 A.xs[k].2] 50)
        have hnews : Hid (∀ j u, [Value.int .i64 A.xs[k].1, Value.int .i64 A.xs[k].2][j]? = some u → ((wr.alloc (.cells #[.int .i64 A.xs[k].1, .int .i64 A.xs[k].2] 50)).alloc (.cells #[.int .i64 A.xs[k].1, .int .i64 A.xs[k].2] 50)).cell? ((⟨wr.heap.size + 1, 0, none⟩ : Addr).add j) = some u) := by
          have := cell_two_new (wr.alloc (.cells #[.int .i64 A.xs[k].1, .int .i64 A.xs[k].2] 50)) (.int .i64 A.xs[k].1) (.int .i64 A.xs[k].2) 50
          rw [World.size_alloc] at this
          exact this
        have hone : Hid (∀ u ∈ [Value.int .i64 A.xs[k].1, Value.int .i64 A.xs[k].2], u.oneCell' = true) := fun x hx => by simp at hx; rcases hx with rfl | rfl <;> rfl
        have hlen : (rest cat (A.xs.take k)).length + 1 ≤ maxLen := by unfold maxLen; omega
        have hlen16 : ((rest cat (A.xs.take k)).length + 1) * 16 ≤ 140737488355328 := by omega
        go_wp2_with (at_builtin; refine wpList_append_own _ rfl _ _ 22 rfl (w.heap.size + 2) 50 i0 (.agg #[.int .i64 0, .int .i64 0]) 2 16 Try.underlying22 hi hz0 hz1 hz2 rfl (by decide) _ _ _ rfl hownA ⟨wr.heap.size + 1, 0, none⟩ 1 1 [.int .i64 A.xs[k].1, .int .i64 A.xs[k].2] rfl rfl hnews.out hone.out hlen hlen16 (by simp <;> omega) ?_; intro v' w3 hown' hgrow3 hnil3)
        have hb3 : Below (w.heap.size + 2) W0 w3 := Below.grown ((hb.alloc hz _).alloc (by simp <;> omega) _) hgrow3 (by simp <;> omega) (fun j hj => (hown.lt _ hj).1)
        go_roundw
        case rel => exact ⟨k + 1, by omega, by go_num, by rw [HS.out, List.length_append, flat_append]; exact hown', hb3⟩
        case measure => simp [intOf]; omega
      · have h3' : (A.xs[k].1 != cat) = false := by simpa using h3
        rw [if_neg h3] at hs
        have HS : Hid (rest cat (A.xs.take (k + 1)) = rest cat (A.xs.take k)) := hs
        clear hs
        go_wp2
        go_roundw
        case rel => exact ⟨k + 1, by omega, by go_num, by rw [HS.out]; exact hown.alloc _, hb.alloc hz _⟩
        case measure => simp [intOf]; omega
    · have hk' : A.xs.take k = A.xs := List.take_of_length_le (by omega)
      rw [hk'] at hown
      clear hk' hc
      have hle := rest_le cat A.xs
      have q0 := (hb.cell (p := ⟨w.heap.size + 1, 0, none⟩) (by simp)).trans c0
      have q1 := (hb.cell (p := ⟨w.heap.size + 1, 1, none⟩) (by simp)).trans c1
      have qf : ∀ o, wr.frozen? ⟨w.heap.size + 1, o, none⟩ = false := fun o => (hb.frozen (p := ⟨w.heap.size + 1, o, none⟩) (by simp)).trans (cf o)
      have g1 : w.heap.size < wr.heap.size := by omega
      have g2 : w.heap.size + 1 < wr.heap.size := by omega
      have hownA := hown.alloc (.cells #[.int .i64 cat, .int .i64 level] 50)
      have hnews : Hid (∀ j u, [Value.int .i64 cat, Value.int .i64 level][j]? = some u → (wr.alloc (.cells #[.int .i64 cat, .int .i64 level] 50)).cell? ((⟨wr.heap.size, 0, none⟩ : Addr).add j) = some u) := cell_two_new wr _ _ 50
      have hone : Hid (∀ u ∈ [Value.int .i64 cat, Value.int .i64 level], u.oneCell' = true) := fun x hx => by simp at hx; rcases hx with rfl | rfl <;> rfl
      have hlen : (rest cat A.xs).length + 1 ≤ maxLen := by unfold maxLen; omega
      have hlen16 : ((rest cat A.xs).length + 1) * 16 ≤ 140737488355328 := by omega
      go_wp2
      go_region_law (first
        | (refine step_append_own rfl (.tmp 29) (.tmp 33) 22 rfl (w.heap.size + 2) 50 i0 (.agg #[.int .i64 0, .int .i64 0]) 2 16 Try.underlying22 hi hz0 hz1 hz2 rfl (by decide) u8 _ _ (by simp [Act.eval]) hownA.drew ⟨wr.heap.size, 0, none⟩ 1 1 [.int .i64 cat, .int .i64 level] (by simp [Act.eval]) rfl hnews.out hone.out hlen hlen16 (by simp <;> omega) ?_; intro v' w3 hown' hgrow3 hnil3; have hb3 : Below (w.heap.size + 2) wr w3 := (Below.grown (((Below.refl _ wr).alloc hz _).drew) hgrow3 (by simp <;> omega) (fun j hj => (hown.lt _ hj).1)); have m3 := (hb3.cell (p := ⟨w.heap.size, 0, none⟩) (by simp)).trans m0; have x0 := (hb3.cell (p := ⟨w.heap.size + 1, 0, none⟩) (by simp)).trans q0; have x1 := (hb3.cell (p := ⟨w.heap.size + 1, 1, none⟩) (by simp)).trans q1; have xf : ∀ o, w3.frozen? ⟨w.heap.size + 1, o, none⟩ = false := (fun o => (hb3.frozen (p := ⟨w.heap.size + 1, o, none⟩) (by simp)).trans (qf o)); have hcw := with_out hown'; obtain ⟨g', cap', rfl⟩ := ownsRow_succ hown'; have hc3 := hcw g' cap' rfl)
        | (go_simp; go_at_call 48; refine Calls.mono (HM.out g' cap' w3 hc3) ?_; rintro e w5 ⟨v5, rfl, hR5, hb5⟩; have hz3 := hb3.size; have y0 := (hb5.cell (p := ⟨w.heap.size + 1, 0, none⟩) (by simp; omega)).trans x0; have y1 := (hb5.cell (p := ⟨w.heap.size + 1, 1, none⟩) (by simp; omega)).trans x1; have yf : ∀ o, w5.frozen? ⟨w.heap.size + 1, o, none⟩ = false := (fun o => (hb5.frozen (p := ⟨w.heap.size + 1, o, none⟩) (by simp; omega)).trans (xf o)); obtain ⟨p5, c5, rfl, hc5, hl5⟩ := hR5.out))
      all_goals go_wp2
      all_goals
        refine bodyPost_ret (by simp [results, Try.results43, go_sem, y0, y1]; rfl) rfl ⟨_, rfl, ?_, ?_⟩
        · exact Rw.mono (Rw.set (Rw.set hR5 (by simp; omega) _) (by simp; omega) _) (by omega)
        · exact ((hB.trans ((hb3.mono (by omega)).trans (hb5.mono (by omega)))).setCell (p := ⟨w.heap.size + 1, 0, none⟩) (by simp) _).setCell (p := ⟨w.heap.size + 1, 1, none⟩) (by simp) _
end Go.Proofs.Ytnjmgholoigpkaa
