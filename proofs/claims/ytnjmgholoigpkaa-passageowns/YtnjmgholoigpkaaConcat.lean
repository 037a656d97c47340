/- What slices.Concat makes of rows of numbers. -/
import Derived.Test.YtnjmgholoigpkaaNamed
import Derived.Laws.OwnMore
import Derived.Laws.AppendOwnNone
import Derived.Lib.AppendZeros
namespace Go.Proofs.Ytnjmgholoigpkaa
open Go.RowKit Go.Sort
theorem ic_length (l : List Int) : (icells l).length = l.length * 1 := by simp [icells]
/-- A slice value that holds mappings. -/
def Src (w : World) (v : Value) (l : List Int) : Prop :=
  (v = .slice none 0 0 ∧ l = []) ∨ ∃ a cap, v = .slice (some a) l.length cap ∧ ∀ j u, (icells l)[j]? = some u → w.cell? (a.add j) = some u
set_option maxRecDepth 100000 in
set_option maxHeartbeats 1000000 in
theorem Grow_nil (n : Nat) (w : World) (hn : n < 1000000) : Calls Try.prog 85 #[.slice none 0 0, .int .i64 n] w fun e w' => ∃ v, e = .returned v ∧ w'.ownsRow w.heap.size 3 1 v 0 [] ∧ Below w.heap.size w w' := by
  obtain ⟨i0, hi, hz0, hz1, hz2⟩ := info_parts info3
  by_cases h0 : 0 < n
  · have hrz := fun ty => Lib.run_append_nil_zeros w 43 3 ty 3 i0 _ .i64 .i64 Try.underlying43 Try.underlying3 hi hz0 n h0 (by omega) (by omega) (by rw [hz2]; omega)
    obtain ⟨G, hG⟩ : ∃ G, G = grownCap w n 0 3 := ⟨_, rfl⟩
    have hG63 : G ≤ maxLen := by rw [hG]; exact grownCap_le_maxLen w n 0 3 (by unfold maxLen; omega)
    have hGn : n ≤ G := by rw [hG]; exact grownCap_ge w _ _ _
    rw [← hG] at hrz
    have HS := Lib.hid (World.ownsRow_made (base := w.heap.size) (e := 3) (size := 1) w.drew (Builtin.zeroCells (Value.int .i64 0).cells n ++ Builtin.zeroCells (Value.int .i64 0).cells (G - n)) G (Nat.le_refl _) hG63 (by simp [Builtin.zeroCells, Value.cells]; omega))
    have HB := Lib.hid (((Below.refl w.heap.size w).drew).alloc (Nat.le_refl _) (.cells (Builtin.zeroCells (Value.int .i64 0).cells n ++ Builtin.zeroCells (Value.int .i64 0).cells (G - n)) 3))
    unfold maxLen at hG63
    have HZ := Lib.hid hrz
    clear hrz hG
    have h0i : (0 : Int) < (n : Int) := by omega
    go_enter Try.func85, Try.ntmps85
    go_wp2_with (at_builtin; refine Lib.wpList_append_run _ rfl _ _ _ _ rfl _ _ rfl rfl _ _ (HZ.out _) ?_)
    all_goals (go_ret; exact ⟨_, rfl, HS.out, HB.out⟩)
  · obtain rfl : n = 0 := by omega
    go_enter Try.func85, Try.ntmps85
    go_wp2
    go_ret
    exact ⟨_, rfl, World.ownsRow_nil _ _ _ _, Below.refl _ _⟩
theorem own_src {w : World} {base n : Nat} {v : Value} {l : List Int} (h : w.ownsRow base 3 1 v n (icells l)) : n = l.length ∧ Src w v l := by
  have hn : n = l.length := by have := h.1; rw [ic_length] at this; omega
  subst hn
  refine ⟨rfl, ?_⟩
  have hc := fun g hg => h.cells (g := g) hg
  rcases h.2 with ⟨rfl, h0⟩ | ⟨g, cap, cur, rfl, _⟩
  · exact .inl ⟨rfl, List.length_eq_zero_iff.1 h0⟩
  · exact .inr ⟨_, cap, rfl, hc g rfl⟩
theorem Src.below {w w' : World} {v : Value} {l : List Int} (h : Src w v l) (hb : Below w.heap.size w w') : Src w' v l := by
  rcases h with h | ⟨a, cap, rfl, hc⟩
  · exact .inl h
  · refine .inr ⟨a, cap, rfl, fun j u hu => ?_⟩
    have h1 := hc j u hu
    exact (hb.cell (p := a.add j) (World.block_lt_of_cell? w _ h1)).trans h1
def cat (ps : List (Value × List Int)) : List Int := ps.flatMap (·.2)
theorem cat_take (ps : List (Value × List Int)) (k : Nat) (h : k < ps.length) : cat (ps.take (k + 1)) = cat (ps.take k) ++ ps[k].2 := by
  unfold cat; rw [List.take_succ_eq_append_getElem h, List.flatMap_append]; simp
theorem cat_le (ps : List (Value × List Int)) (k : Nat) : (cat (ps.take k)).length ≤ (cat ps).length := by
  have : cat ps = cat (ps.take k) ++ cat (ps.drop k) := by unfold cat; rw [← List.flatMap_append, List.take_append_drop]
  rw [this, List.length_append]; omega
theorem Src.len {w : World} {v : Value} {l : List Int} (h : Src w v l) : ∃ p cap, v = .slice p l.length cap := by
  rcases h with ⟨rfl, rfl⟩ | ⟨a, cap, rfl, _⟩
  · exact ⟨_, _, rfl⟩
  · exact ⟨_, _, rfl⟩
set_option maxRecDepth 100000 in
set_option maxHeartbeats 2000000 in
theorem Concat_any (b cap : Nat) (ps : List (Value × List Int)) (w : World) (hn : (cat ps).length < 1000000) (hp : ps.length < 1000) (hb : b < w.heap.size) (hc : ∀ k (h : k < ps.length), w.cell? ⟨b, k, none⟩ = some ps[k].1) (hs : ∀ x ∈ ps, Src w x.1 x.2) :
    Calls Try.prog 60 #[.slice (some ⟨b, 0, none⟩) ps.length cap] w fun e w' => ∃ v, e = .returned v ∧ w'.ownsRow w.heap.size 3 1 v (cat ps).length (icells (cat ps)) ∧ Below w.heap.size w w' := by
  obtain ⟨i0, hi, hz0, hz1, hz2⟩ := info_parts info3
  go_enter Try.func60, Try.ntmps60
  go_wp2_with fail
  go_loopw [3, 11] (fun s i wr => ∃ k : Nat, k ≤ ps.length ∧ s = .int .i64 ((cat (ps.take k)).length : Nat) ∧ i = .int .i64 k ∧ w = wr) (fun _ i _ => ps.length - (intOf i).toNat)
  case atStart => exact ⟨0, Nat.zero_le _, by simp [cat], rfl, rfl⟩
  case round =>
    obtain ⟨k, hk, rfl, rfl, rfl⟩ := hrel
    by_cases hlt : k < ps.length
    · have hki : (k : Int) < (ps.length : Int) := by omega
      obtain ⟨p, cp, hv⟩ := (hs _ (List.getElem_mem hlt)).len
      have c0 := hc k hlt
      rw [hv] at c0
      have h1 := cat_le ps k
      have h2 := cat_le ps (k + 1)
      have HT := Lib.hid (congrArg List.length (cat_take ps k hlt))
      have h3 : (cat (ps.take k)).length + ps[k].2.length < 1000000 := by have := HT.out; rw [List.length_append] at this; omega
      have hneg : ¬ ((cat (ps.take k)).length : Int) + (ps[k].2.length : Int) < 0 := by omega
      clear hs hc
      go_wp2
      go_roundw
      case rel => exact ⟨k + 1, by omega, by rw [HT.out, List.length_append]; go_num, by go_num, trivial⟩
      case measure => simp [intOf]; omega
    · obtain rfl : k = ps.length := by omega
      have hkk : ¬ (ps.length : Int) < (ps.length : Int) := by omega
      rw [List.take_length] at *
      have HG := Lib.hid (Grow_nil (cat ps).length w hn)
      go_wp2_with (first | (go_at_call 85; refine HG.out.mono ?_; rintro e w1 ⟨v1, rfl, ho1, hb1⟩))
      have HC : Hid (∀ wr, Below w.heap.size w wr → ∀ k (h : k < ps.length), wr.cell? ⟨b, k, none⟩ = some ps[k].1 ∧ Src wr ps[k].1 ps[k].2) := fun wr hwr k h => ⟨(hwr.cell (p := ⟨b, k, none⟩) hb).trans (hc k h), (hs _ (List.getElem_mem h)).below hwr⟩
      clear hc hs hkk hk hlt
      go_loopw [6, 27] (fun v i wr => ∃ k : Nat, k ≤ ps.length ∧ i = .int .i64 k ∧ wr.ownsRow w.heap.size 3 1 v (cat (ps.take k)).length (icells (cat (ps.take k))) ∧ Below w.heap.size w wr) (fun _ i _ => ps.length - (intOf i).toNat)
      case atStart => exact ⟨0, Nat.zero_le _, rfl, by simpa [cat, icells] using ho1, hb1⟩
      case round =>
        obtain ⟨k, hk, rfl, hown, hbr⟩ := hrel
        by_cases hlt : k < ps.length
        · have hki : (k : Int) < (ps.length : Int) := by omega
          obtain ⟨c0, hsrc⟩ := HC.out _ hbr k hlt
          have h1 := cat_le ps k
          have h2 := cat_le ps (k + 1)
          have HT := Lib.hid (cat_take ps k hlt)
          have h3 : (cat (ps.take k)).length + ps[k].2.length < 1000000 := by have := congrArg List.length HT.out; rw [List.length_append] at this; omega
          have hbw : b < wr.heap.size := Nat.lt_of_lt_of_le hb hbr.size
          have HL := Lib.hid hown.lt
          obtain ⟨T, hT⟩ : ∃ T, (cat (ps.take k)).length = T := ⟨_, rfl⟩
          rw [hT] at h1 h3 hown
          rcases hsrc with ⟨hv, hx⟩ | ⟨a, cp, hv, hcell⟩
          · rw [hv] at c0
            clear hT
            go_wp2_with (at_builtin; refine wpList_append_own_none rfl _ _ 43 rfl w.heap.size 3 i0 1 Try.underlying43 hi _ _ _ rfl hown rfl ?_)
            go_roundw
            case rel => exact ⟨k + 1, by omega, by go_num, by rw [HT.out, hx, List.append_nil]; exact (own_src hown).1 ▸ hown, hbr⟩
            case measure => simp [intOf]; omega
          · rw [hv] at c0
            have hbs := hbr.size
            have HCell := Lib.hid hcell
            clear hcell hT
            have h63 : T + ps[k].2.length ≤ maxLen := by unfold maxLen; omega
            have hby : (T + ps[k].2.length) * 8 ≤ 140737488355328 := by omega
            go_wp2_with (at_builtin; refine wpList_append_own _ rfl _ _ 43 rfl w.heap.size 3 i0 (.int .i64 0) 1 8 Try.underlying43 hi hz0 hz1 hz2 rfl (by decide) _ _ _ rfl hown a _ cp (icells ps[k].2) rfl (ic_length _) HCell.out (icells_one _) h63 hby hbs ?_; intro v' w3 hown' hgrow3 hnil3; have HO := Lib.hid hown'; have HGW := Lib.hid hgrow3; clear hown' hgrow3 hnil3)
            go_roundw
            case rel =>
              refine ⟨k + 1, by omega, by go_num, ?_, Below.grown hbr HGW.out hbs (fun j hj => (HL.out j hj).1)⟩
              have h := HO.out
              rw [← icells_append, ← HT.out] at h
              rw [(own_src h).1] at h
              exact h
            case measure => simp [intOf]; omega
        · obtain rfl : k = ps.length := by omega
          have hkk : ¬ (ps.length : Int) < (ps.length : Int) := by omega
          rw [List.take_length] at hown
          go_wp2
          go_ret
          exact ⟨_, rfl, hown, hbr⟩
end Go.Proofs.Ytnjmgholoigpkaa
