/- What Put of the reference answers, for every label. -/
import Derived.Test.YtnjmgholoigpkaaNamed
import Derived.Test.YtnjmgholoigpkaaTurn
import Derived.Laws.AppendOwnNone
namespace Go.Proofs.Ytnjmgholoigpkaa
open Go.RowKit Go.Sort

/-- A slice of entries: none at all, or one that lies plainly, at B or behind it. -/
def Rw (B : Nat) (W : World) (v : Value) (zs : List (Int × Int)) : Prop := (v = .slice none 0 0 ∧ zs = []) ∨ ∃ b off cap, v = .slice (some ⟨b, off, none⟩) zs.length cap ∧ zs.length ≤ cap ∧ (B ≤ b ∧ b < W.heap.size) ∧ CatsAt W (some ⟨b, off, none⟩) zs
theorem Rw.below {B : Nat} {w w' : World} {v : Value} {zs : List (Int × Int)} (h : Rw B w v zs) (hb : Below w.heap.size w w') : Rw B w' v zs := by
  rcases h with ⟨h1, h2⟩ | ⟨b, off, cap, h1, h2, h3, h4⟩
  · exact .inl ⟨h1, h2⟩
  · exact .inr ⟨b, off, cap, h1, h2, ⟨h3.1, Nat.lt_of_lt_of_le h3.2 hb.size⟩, h4.below hb⟩
theorem Rw.own {B B' : Nat} {w : World} {v : Value} {zs : List (Int × Int)} (h : w.ownsRow B' 50 2 v zs.length (flat zs)) (hB : B ≤ B') : Rw B w v zs := by
  obtain ⟨p, cap, e, hc, hl⟩ := own_out h
  have h' := h
  obtain ⟨_, h2⟩ := h
  rcases h2 with ⟨rfl, hn⟩ | ⟨g, cap, cur, rfl, hg, hh, hn, _⟩
  · exact .inl ⟨rfl, List.eq_nil_of_length_eq_zero hn⟩
  · cases e
    exact .inr ⟨g, 0, cap, rfl, hn, ⟨Nat.le_trans hB (h'.lt g rfl).1, (h'.lt g rfl).2⟩, hc⟩
theorem Rw.set {B : Nat} {w : World} {v : Value} {zs : List (Int × Int)} (h : Rw B w v zs) {a : Addr} (ha : a.block < B) (u : Value) : Rw B (w.setCell a u) v zs := by
  rcases h with ⟨h1, h2⟩ | ⟨b, off, cap, h1, h2, h3, h4⟩
  · exact .inl ⟨h1, h2⟩
  · refine .inr ⟨b, off, cap, h1, h2, ⟨h3.1, by simpa using h3.2⟩, fun j hj => ?_⟩
    obtain ⟨b', off', e, hb', c0, c1⟩ := h4 j hj
    cases e
    exact ⟨b, off, rfl, by simpa using h3.2, by rw [World.cell?_setCell_other _ _ _ _ (fun e => by have := congrArg Addr.block e; simp at this; omega)]; exact c0, by rw [World.cell?_setCell_other _ _ _ _ (fun e => by have := congrArg Addr.block e; simp at this; omega)]; exact c1⟩
theorem Rw.mono {B B' : Nat} {w : World} {v : Value} {zs : List (Int × Int)} (h : Rw B w v zs) (hB : B' ≤ B) : Rw B' w v zs := by
  rcases h with ⟨h1, h2⟩ | ⟨b, off, cap, h1, h2, h3, h4⟩
  · exact .inl ⟨h1, h2⟩
  · exact .inr ⟨b, off, cap, h1, h2, ⟨Nat.le_trans hB h3.1, h3.2⟩, h4⟩
theorem Rw.out {B : Nat} {w : World} {v : Value} {zs : List (Int × Int)} (h : Rw B w v zs) : ∃ p cap, v = .slice p zs.length cap ∧ CatsAt w p zs ∧ zs.length ≤ cap := by
  rcases h with ⟨rfl, rfl⟩ | ⟨b, off, cap, h1, h2, h3, h4⟩
  · exact ⟨none, 0, rfl, fun j hj => by simp at hj, Nat.le_refl _⟩
  · exact ⟨_, cap, h1, h4, h2⟩
theorem addr_add2 (b off j : Nat) : (⟨b, off, none⟩ : Addr).add j = ⟨b, off + j, none⟩ := by
  by_cases h : j = 0 <;> simp [Addr.add, h]
theorem flat_cells {w : World} {b off : Nat} {xs : List (Int × Int)} (h : CatsAt w (some ⟨b, off, none⟩) xs) : ∀ j u, (flat xs)[j]? = some u → w.cell? ((⟨b, off, none⟩ : Addr).add j) = some u := by
  intro j u hu
  have hj : j < xs.length * 2 := by rw [← flat_length]; exact (List.getElem?_eq_some_iff.1 hu).1
  obtain ⟨b', off', e, hb, c0, c1⟩ := h (j / 2) (by omega)
  cases e
  have hg := flat_get xs (j / 2) (by omega)
  rw [addr_add2]
  rcases Nat.mod_two_eq_zero_or_one j with hm | hm
  · have ej : j / 2 * 2 = j := by omega
    rw [ej] at hg c0
    rw [hg.1] at hu; cases hu; exact c0
  · have ej : j / 2 * 2 + 1 = j := by omega
    rw [ej] at hg
    rw [show off + j / 2 * 2 + 1 = off + j from by omega] at c1
    rw [hg.2] at hu; cases hu; exact c1
theorem flat_one' (xs : List (Int × Int)) : ∀ u ∈ flat xs, u.oneCell' = true := by
  induction xs with
  | nil => intro u hu; simp [flat] at hu
  | cons x xs ih => intro u hu; simp only [flat, List.mem_cons] at hu; rcases hu with rfl | rfl | hu; rfl; rfl; exact ih u hu

def putS (d : Int) (zs : List (Int × Int)) (c l : Int) : List (Int × Int) := if (l != d) = true then zs ++ [(c, l)] else zs
theorem putS_len (d : Int) (zs : List (Int × Int)) (c l : Int) : (putS d zs c l).length ≤ zs.length + 1 := by unfold putS; split <;> simp

set_option maxRecDepth 100000 in
set_option maxHeartbeats 1000000 in
theorem Put_any (B : Nat) (d c l : Int) (v : Value) (zs : List (Int × Int)) (w : World) (hm : (zs.length + 1) * 16 ≤ 140737488355328) (hBw : B ≤ w.heap.size) (hR : Rw B w v zs) :
    Calls Try.prog 50 #[.agg #[.int .i64 d, v], .int .i64 c, .int .i64 l] w fun e w' => ∃ v', e = .returned (.agg #[.int .i64 d, v']) ∧ Rw B w' v' (putS d zs c l) ∧ Below w.heap.size w w' := by
  obtain ⟨i0, hi, hz0, hz1, hz2⟩ := info_parts info30
  by_cases h1 : (l != d) = true
  · have HP : Hid (putS d zs c l = zs ++ [(c, l)]) := by simp only [Hid, putS]; rw [if_pos h1]
    have hone : Hid (∀ u ∈ [Value.int .i64 c, Value.int .i64 l], u.oneCell' = true) := fun x hx => by simp at hx; rcases hx with rfl | rfl <;> rfl
    have h63 : 0 + zs.length ≤ maxLen := by unfold maxLen; omega
    have hby : (0 + zs.length) * 16 ≤ 140737488355328 := by omega
    have h63b : 0 + zs.length + 1 ≤ maxLen := by unfold maxLen; omega
    have hbyb : (0 + zs.length + 1) * 16 ≤ 140737488355328 := by omega
    rcases hR with ⟨rfl, rfl⟩ | ⟨b, off, cap, rfl, hcap, hb0, hc⟩
    · have hOwn0 : (((w.alloc (.cells #[.int .i64 d, .slice none 0 0] 24)).alloc (.cells #[.int .i64 0, .slice none 0 0] 24)).alloc (.cells #[] 50)).ownsRow (w.heap.size + 2) 50 2 (.slice (some ⟨w.heap.size + 1 + 1, 0, none⟩) 0 0) 0 [] := by
        have := World.ownsRow_lit (base := w.heap.size + 2) (e := 50) (size := 2) ((w.alloc (.cells #[.int .i64 d, .slice none 0 0] 24)).alloc (.cells #[.int .i64 0, .slice none 0 0] 24)) #[] 0 (by simp) (by decide) rfl
        simpa using this
      have hB2 : Below w.heap.size w (((w.alloc (.cells #[.int .i64 d, .slice none 0 0] 24)).alloc (.cells #[.int .i64 0, .slice none 0 0] 24)).alloc (.cells #[] 50)) := by go_grown
      have hown4A := hOwn0.alloc (.cells #[.int .i64 c, .int .i64 l] 50)
      have HN2 : Hid (∀ j u, [Value.int .i64 c, Value.int .i64 l][j]? = some u → ((((w.alloc (.cells #[.int .i64 d, .slice none 0 0] 24)).alloc (.cells #[.int .i64 0, .slice none 0 0] 24)).alloc (.cells #[] 50)).alloc (.cells #[.int .i64 c, .int .i64 l] 50)).cell? ((⟨w.heap.size + 1 + 1 + 1, 0, none⟩ : Addr).add j) = some u) := by
        have := cell_two_new (((w.alloc (.cells #[.int .i64 d, .slice none 0 0] 24)).alloc (.cells #[.int .i64 0, .slice none 0 0] 24)).alloc (.cells #[] 50)) (.int .i64 c) (.int .i64 l) 50
        simp only [World.size_alloc] at this
        exact this
      clear hOwn0
      go_enter Try.func50, Try.ntmps50
      go_wp2_with (at_builtin; refine wpList_append_own _ rfl _ _ 22 rfl (w.heap.size + 2) 50 i0 (.agg #[.int .i64 0, .int .i64 0]) 2 16 Try.underlying22 hi hz0 hz1 hz2 rfl (by decide) _ _ _ rfl hown4A ⟨w.heap.size + 1 + 1 + 1, 0, none⟩ 1 1 [.int .i64 c, .int .i64 l] rfl rfl HN2.out hone.out h63b hbyb (by simp <;> omega) ?_; intro v5 w5 hown5 hgrow5 hnil5; refine Hid.out ?_)
      refine Lib.hid ?_
      have hb5 : Below (w.heap.size + 2) (((w.alloc (.cells #[.int .i64 d, .slice none 0 0] 24)).alloc (.cells #[.int .i64 0, .slice none 0 0] 24)).alloc (.cells #[] 50)) w5 := Below.grown ((Below.refl _ _).alloc (by simp) _) hgrow5 (by simp <;> omega) (fun j hj => (hown4A.lt _ hj).1)
      have hB4 := hB2
      obtain ⟨g', cap', rfl⟩ := ownsRow_succ hown5
      clear hnil5 hgrow5
      have q0' : w5.cell? ⟨w.heap.size, 0, none⟩ = some (.int .i64 d) := (hb5.cell (p := ⟨w.heap.size, 0, none⟩) (by simp)).trans (by simp [go_sem])
      have q1' : w5.cell? ⟨w.heap.size, 1, none⟩ = some (.slice none 0 0) := (hb5.cell (p := ⟨w.heap.size, 1, none⟩) (by simp)).trans (by simp [go_sem])
      have r0' : w5.cell? ⟨w.heap.size + 1, 0, none⟩ = some (.int .i64 0) := (hb5.cell (p := ⟨w.heap.size + 1, 0, none⟩) (by simp)).trans (by simp [go_sem])
      have r1' : w5.cell? ⟨w.heap.size + 1, 1, none⟩ = some (.slice none 0 0) := (hb5.cell (p := ⟨w.heap.size + 1, 1, none⟩) (by simp)).trans (by simp [go_sem])
      have qf' : ∀ o, w5.frozen? ⟨w.heap.size, o, none⟩ = false := fun o => (hb5.frozen (p := ⟨w.heap.size, o, none⟩) (by simp)).trans (by simp [go_sem])
      have rf' : ∀ o, w5.frozen? ⟨w.heap.size + 1, o, none⟩ = false := fun o => (hb5.frozen (p := ⟨w.heap.size + 1, o, none⟩) (by simp)).trans (by simp [go_sem])
      clear hown4A
      go_wp2
      refine bodyPost_ret (by simp [results, Try.results50, go_sem, r0', r1']; rfl) rfl ⟨_, rfl, ?_, ?_⟩
      · rw [HP.out]
        have hown6 : w5.ownsRow (w.heap.size + 2) 50 2 (.slice (some ⟨g', 0, none⟩) (([] : List (Int × Int)).length + 1) cap') (([] : List (Int × Int)) ++ [(c, l)]).length (flat (([] : List (Int × Int)) ++ [(c, l)])) := by simpa [flat, flat_append] using hown5
        exact Rw.own (B' := w.heap.size + 2) (ownsRow_setCell_below (ownsRow_setCell_below (ownsRow_setCell_below hown6 (by simp) _) (by simp) _) (by simp) _) (by omega)
      · exact (((hB4.trans (hb5.mono (by omega))).setCell (p := ⟨w.heap.size, 1, none⟩) (by simp) _).setCell (p := ⟨w.heap.size + 1, 0, none⟩) (by simp) _).setCell (p := ⟨w.heap.size + 1, 1, none⟩) (by simp) _
    · have hOwn0 : (((w.alloc (.cells #[.int .i64 d, .slice (some ⟨b, off, none⟩) zs.length cap] 24)).alloc (.cells #[.int .i64 0, .slice none 0 0] 24)).alloc (.cells #[] 50)).ownsRow (w.heap.size + 2) 50 2 (.slice (some ⟨w.heap.size + 1 + 1, 0, none⟩) 0 0) 0 [] := by
        have := World.ownsRow_lit (base := w.heap.size + 2) (e := 50) (size := 2) ((w.alloc (.cells #[.int .i64 d, .slice (some ⟨b, off, none⟩) zs.length cap] 24)).alloc (.cells #[.int .i64 0, .slice none 0 0] 24)) #[] 0 (by simp) (by decide) rfl
        simpa using this
      have hB2 : Below w.heap.size w (((w.alloc (.cells #[.int .i64 d, .slice (some ⟨b, off, none⟩) zs.length cap] 24)).alloc (.cells #[.int .i64 0, .slice none 0 0] 24)).alloc (.cells #[] 50)) := by go_grown
      have HN : Hid (∀ j u, (flat zs)[j]? = some u → (((w.alloc (.cells #[.int .i64 d, .slice (some ⟨b, off, none⟩) zs.length cap] 24)).alloc (.cells #[.int .i64 0, .slice none 0 0] 24)).alloc (.cells #[] 50)).cell? ((⟨b, off, none⟩ : Addr).add j) = some u) := flat_cells (hc.below hB2)
      clear hc
      go_enter Try.func50, Try.ntmps50
      go_wp2_with (at_builtin; refine wpList_append_own _ rfl _ _ 22 rfl (w.heap.size + 2) 50 i0 (.agg #[.int .i64 0, .int .i64 0]) 2 16 Try.underlying22 hi hz0 hz1 hz2 rfl (by decide) _ _ _ rfl hOwn0 ⟨b, off, none⟩ zs.length cap (flat zs) rfl (flat_length zs) HN.out (flat_one' zs) h63 hby (by simp) ?_; intro v4 w4 hown4 hgrow4 hnil4; refine Hid.out ?_)
      refine Lib.hid ?_
      have hb4 : Below (w.heap.size + 2) (((w.alloc (.cells #[.int .i64 d, .slice (some ⟨b, off, none⟩) zs.length cap] 24)).alloc (.cells #[.int .i64 0, .slice none 0 0] 24)).alloc (.cells #[] 50)) w4 := Below.grown (Below.refl _ _) hgrow4 (by simp) (fun j hj => (hOwn0.lt _ hj).1)
      have hz4 : w.heap.size + 3 ≤ w4.heap.size := by have := hgrow4.size; simp at this; omega
      clear hnil4 hgrow4
      have q0 : w4.cell? ⟨w.heap.size, 0, none⟩ = some (.int .i64 d) := (hb4.cell (p := ⟨w.heap.size, 0, none⟩) (by simp)).trans (by simp [go_sem])
      have q1 : w4.cell? ⟨w.heap.size, 1, none⟩ = some (.slice (some ⟨b, off, none⟩) zs.length cap) := (hb4.cell (p := ⟨w.heap.size, 1, none⟩) (by simp)).trans (by simp [go_sem])
      have r0 : w4.cell? ⟨w.heap.size + 1, 0, none⟩ = some (.int .i64 0) := (hb4.cell (p := ⟨w.heap.size + 1, 0, none⟩) (by simp)).trans (by simp [go_sem])
      have r1 : w4.cell? ⟨w.heap.size + 1, 1, none⟩ = some (.slice none 0 0) := (hb4.cell (p := ⟨w.heap.size + 1, 1, none⟩) (by simp)).trans (by simp [go_sem])
      have qf : ∀ o, w4.frozen? ⟨w.heap.size, o, none⟩ = false := fun o => (hb4.frozen (p := ⟨w.heap.size, o, none⟩) (by simp)).trans (by simp [go_sem])
      have rf : ∀ o, w4.frozen? ⟨w.heap.size + 1, o, none⟩ = false := fun o => (hb4.frozen (p := ⟨w.heap.size + 1, o, none⟩) (by simp)).trans (by simp [go_sem])
      have hown4A := hown4.alloc (.cells #[.int .i64 c, .int .i64 l] 50)
      have HN2 : Hid (∀ j u, [Value.int .i64 c, Value.int .i64 l][j]? = some u → (w4.alloc (.cells #[.int .i64 c, .int .i64 l] 50)).cell? ((⟨w4.heap.size, 0, none⟩ : Addr).add j) = some u) := cell_two_new w4 (.int .i64 c) (.int .i64 l) 50
      have hb4A : Below (w.heap.size + 2) w4 (w4.alloc (.cells #[.int .i64 c, .int .i64 l] 50)) := (Below.refl _ _).alloc (by omega) _
      have hB4 : Below w.heap.size w w4 := hB2.trans (hb4.mono (by omega))
      clear hOwn0
      go_wp2_with (at_builtin; refine wpList_append_own _ rfl _ _ 22 rfl (w.heap.size + 2) 50 i0 (.agg #[.int .i64 0, .int .i64 0]) 2 16 Try.underlying22 hi hz0 hz1 hz2 rfl (by decide) _ _ _ rfl hown4A ⟨w4.heap.size, 0, none⟩ 1 1 [.int .i64 c, .int .i64 l] rfl rfl HN2.out hone.out h63b hbyb (by simp <;> omega) ?_; intro v5 w5 hown5 hgrow5 hnil5; refine Hid.out ?_)
      refine Lib.hid ?_
      have hb5 : Below (w.heap.size + 2) w4 w5 := Below.grown hb4A hgrow5 (by simp <;> omega) (fun j hj => (hown4A.lt _ hj).1)
      obtain ⟨g', cap', rfl⟩ := ownsRow_succ hown5
      clear hnil5 hgrow5
      have q0' := (hb5.cell (p := ⟨w.heap.size, 0, none⟩) (by simp)).trans q0
      have q1' := (hb5.cell (p := ⟨w.heap.size, 1, none⟩) (by simp)).trans q1
      have r0' := (hb5.cell (p := ⟨w.heap.size + 1, 0, none⟩) (by simp)).trans r0
      have r1' := (hb5.cell (p := ⟨w.heap.size + 1, 1, none⟩) (by simp)).trans r1
      have qf' : ∀ o, w5.frozen? ⟨w.heap.size, o, none⟩ = false := fun o => (hb5.frozen (p := ⟨w.heap.size, o, none⟩) (by simp)).trans (qf o)
      have rf' : ∀ o, w5.frozen? ⟨w.heap.size + 1, o, none⟩ = false := fun o => (hb5.frozen (p := ⟨w.heap.size + 1, o, none⟩) (by simp)).trans (rf o)
      clear q0 q1 r0 r1 qf rf hown4 hown4A
      go_wp2
      refine bodyPost_ret (by simp [results, Try.results50, go_sem, r0', r1']; rfl) rfl ⟨_, rfl, ?_, ?_⟩
      · rw [HP.out]
        have hown6 : w5.ownsRow (w.heap.size + 2) 50 2 (.slice (some ⟨g', 0, none⟩) (zs.length + 1) cap') (zs ++ [(c, l)]).length (flat (zs ++ [(c, l)])) := by simpa [flat, flat_append] using hown5
        exact Rw.own (B' := w.heap.size + 2) (ownsRow_setCell_below (ownsRow_setCell_below (ownsRow_setCell_below hown6 (by simp) _) (by simp) _) (by simp) _) (by omega)
      · exact (((hB4.trans (hb5.mono (by omega))).setCell (p := ⟨w.heap.size, 1, none⟩) (by simp) _).setCell (p := ⟨w.heap.size + 1, 0, none⟩) (by simp) _).setCell (p := ⟨w.heap.size + 1, 1, none⟩) (by simp) _
  · have h1' : (l != d) = false := by simpa using h1
    have HP : Hid (putS d zs c l = zs) := by simp only [Hid, putS]; rw [if_neg h1]
    obtain ⟨p, cap, rfl, hcx, hcap⟩ := hR.out
    have hW : Below w.heap.size w ((w.alloc (.cells #[.int .i64 d, .slice p zs.length cap] 24)).alloc (.cells #[.int .i64 0, .slice none 0 0] 24)) := by go_grown
    go_enter Try.func50, Try.ntmps50
    go_wp2
    refine bodyPost_ret (by simp [results, Try.results50, go_sem]; rfl) rfl ⟨_, rfl, ?_, ?_⟩
    · rw [HP.out]; exact hR.below (by go_grown)
    · go_grown
end Go.Proofs.Ytnjmgholoigpkaa
