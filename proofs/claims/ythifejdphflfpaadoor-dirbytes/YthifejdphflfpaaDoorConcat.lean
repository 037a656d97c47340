/- What slices.Concat makes of rows of entries. -/
import Derived.Test.YthifejdphflfpaaDoorBase
import Derived.Laws.OwnMore
import Derived.Laws.AppendOwnNone
import Derived.Lib.AppendZeros
namespace Go.Proofs.YthifejdphflfpaaDoor
open Go.RowKit Go.Sort
theorem nameInfo : (Tryd.prog.info? 25).map (fun i => (i.zero, i.size, i.bytes)) = some (some (.agg #[.string ⟨#[]⟩, .int .i64 0, .int .i64 0]), 3, 32) := by kernel_rfl
def flat (l : List Nm) : List Value := l.flatMap nmC
theorem flat_length (l : List Nm) : (flat l).length = l.length * 3 := by
  induction l with
  | nil => rfl
  | cons x l ih => unfold flat at ih ⊢; rw [List.flatMap_cons, List.length_append, ih]; simp [nmC]; omega
theorem flat_append (a b : List Nm) : flat (a ++ b) = flat a ++ flat b := by unfold flat; rw [List.flatMap_append]
theorem flat_one (l : List Nm) : ∀ u ∈ flat l, u.oneCell' = true := by
  intro u hu
  unfold flat at hu
  obtain ⟨x, _, hx⟩ := List.mem_flatMap.1 hu
  simp only [nmC, List.mem_cons, List.not_mem_nil, or_false] at hx
  rcases hx with rfl | rfl | rfl <;> rfl
/-- A slice value that holds entries. -/
def Src (w : World) (v : Value) (l : List Nm) : Prop :=
  (v = .slice none 0 0 ∧ l = []) ∨ ∃ a cap, v = .slice (some a) l.length cap ∧ ∀ j u, (flat l)[j]? = some u → w.cell? (a.add j) = some u
theorem info_parts' {t : TypeId} {z : Value} {s b : Nat} (h : (Tryd.prog.info? t).map (fun i => (i.zero, i.size, i.bytes)) = some (some z, s, b)) : ∃ i, Tryd.prog.info? t = some i ∧ i.zero = some z ∧ i.size = s ∧ i.bytes = b := by
  obtain ⟨i, h1, h2⟩ := Option.map_eq_some_iff.1 h
  simp only [Prod.mk.injEq] at h2
  exact ⟨i, h1, h2.1, h2.2.1, h2.2.2⟩
set_option maxRecDepth 100000 in
set_option maxHeartbeats 1000000 in
theorem Grow_nil (n : Nat) (w : World) (hn : n < 1000000) : Calls Tryd.prog 46 #[.slice none 0 0, .int .i64 n] w fun e w' => ∃ v, e = .returned v ∧ w'.ownsRow w.heap.size 25 3 v 0 [] ∧ Below w.heap.size w w' := by
  obtain ⟨i0, hi, hz0, hz1, hz2⟩ := info_parts' nameInfo
  by_cases h0 : 0 < n
  · have hrz := fun ty => Lib.run_append_nil_zeros w 22 3 ty 25 i0 _ .i64 .i64 Tryd.underlying22 Tryd.underlying3 hi hz0 n h0 (by omega) (by omega) (by rw [hz2]; omega)
    obtain ⟨G, hG⟩ : ∃ G, G = grownCap w n 0 25 := ⟨_, rfl⟩
    have hG63 : G ≤ maxLen := by rw [hG]; exact grownCap_le_maxLen w n 0 25 (by unfold maxLen; omega)
    have hGn : n ≤ G := by rw [hG]; exact grownCap_ge w _ _ _
    rw [← hG] at hrz
    have HS := Lib.hid (World.ownsRow_made (base := w.heap.size) (e := 25) (size := 3) w.drew (Builtin.zeroCells (Value.agg #[.string ⟨#[]⟩, .int .i64 0, .int .i64 0]).cells n ++ Builtin.zeroCells (Value.agg #[.string ⟨#[]⟩, .int .i64 0, .int .i64 0]).cells (G - n)) G (Nat.le_refl _) hG63 (by simp [Builtin.zeroCells, Value.cells]; omega))
    have HB := Lib.hid (((Below.refl w.heap.size w).drew).alloc (Nat.le_refl _) (.cells (Builtin.zeroCells (Value.agg #[.string ⟨#[]⟩, .int .i64 0, .int .i64 0]).cells n ++ Builtin.zeroCells (Value.agg #[.string ⟨#[]⟩, .int .i64 0, .int .i64 0]).cells (G - n)) 25))
    unfold maxLen at hG63
    have HZ := Lib.hid hrz
    clear hrz hG
    have h0i : (0 : Int) < (n : Int) := by omega
    go_enter Tryd.func46, Tryd.ntmps46
    go_wp2_with (at_builtin; refine Lib.wpList_append_run _ rfl _ _ _ _ rfl _ _ rfl rfl _ _ (HZ.out _) ?_)
    all_goals (go_ret; exact ⟨_, rfl, HS.out, HB.out⟩)
  · obtain rfl : n = 0 := by omega
    go_enter Tryd.func46, Tryd.ntmps46
    go_wp2
    go_ret
    exact ⟨_, rfl, World.ownsRow_nil _ _ _ _, Below.refl _ _⟩
theorem own_src {w : World} {base n : Nat} {v : Value} {l : List Nm} (h : w.ownsRow base 25 3 v n (flat l)) : n = l.length ∧ Src w v l := by
  have hn : n = l.length := by have := h.1; rw [flat_length] at this; omega
  subst hn
  refine ⟨rfl, ?_⟩
  have hc := fun g hg => h.cells (g := g) hg
  rcases h.2 with ⟨rfl, h0⟩ | ⟨g, cap, cur, rfl, _⟩
  · exact .inl ⟨rfl, List.length_eq_zero_iff.1 h0⟩
  · exact .inr ⟨_, cap, rfl, hc g rfl⟩
theorem Src.below {w w' : World} {v : Value} {l : List Nm} (h : Src w v l) (hb : Below w.heap.size w w') : Src w' v l := by
  rcases h with h | ⟨a, cap, rfl, hc⟩
  · exact .inl h
  · refine .inr ⟨a, cap, rfl, fun j u hu => ?_⟩
    have h1 := hc j u hu
    exact (hb.cell (p := a.add j) (World.block_lt_of_cell? w _ h1)).trans h1
def cat (ps : List (Value × List Nm)) : List Nm := ps.flatMap (·.2)
theorem cat_take (ps : List (Value × List Nm)) (k : Nat) (h : k < ps.length) : cat (ps.take (k + 1)) = cat (ps.take k) ++ ps[k].2 := by
  unfold cat; rw [List.take_succ_eq_append_getElem h, List.flatMap_append]; simp
theorem cat_le (ps : List (Value × List Nm)) (k : Nat) : (cat (ps.take k)).length ≤ (cat ps).length := by
  have : cat ps = cat (ps.take k) ++ cat (ps.drop k) := by unfold cat; rw [← List.flatMap_append, List.take_append_drop]
  rw [this, List.length_append]; omega
theorem Src.len {w : World} {v : Value} {l : List Nm} (h : Src w v l) : ∃ p cap, v = .slice p l.length cap := by
  rcases h with ⟨rfl, rfl⟩ | ⟨a, cap, rfl, _⟩
  · exact ⟨_, _, rfl⟩
  · exact ⟨_, _, rfl⟩
set_option maxRecDepth 100000 in
set_option maxHeartbeats 2000000 in
theorem Concat_any (b cap : Nat) (ps : List (Value × List Nm)) (w : World) (hn : (cat ps).length < 1000000) (hp : ps.length < 1000) (hb : b < w.heap.size) (hc : ∀ k (h : k < ps.length), w.cell? ⟨b, k, none⟩ = some ps[k].1) (hs : ∀ x ∈ ps, Src w x.1 x.2) :
    Calls Tryd.prog 30 #[.slice (some ⟨b, 0, none⟩) ps.length cap] w fun e w' => ∃ v, e = .returned v ∧ w'.ownsRow w.heap.size 25 3 v (cat ps).length (flat (cat ps)) ∧ Below w.heap.size w w' := by
  obtain ⟨i0, hi, hz0, hz1, hz2⟩ := info_parts' nameInfo
  go_enter Tryd.func30, Tryd.ntmps30
  go_wp2_with fail
  go_loopw [3, 11] (fun s i wr => ∃ k : Nat, k ≤ ps.length ∧ s = .int .i64 ((cat (ps.take k)).length : Nat) ∧ i = .int .i64 k ∧ w = wr) (fun _ i _ => ps.length - (intOf i).toNat)
  case atStart => exact ⟨0, Nat.zero_le _, by simp [cat], rfl, rfl⟩
  case round =>
    obtain ⟨k, hk, rfl, rfl, rfl⟩ := hrel
    by_cases hlt : k < ps.length
    · have hki : (k : Int) < (ps.length : Int) := by omega
      obtain ⟨p, cp, hv⟩ := (hs _ (List.getElem_mem hlt)).len
      have c0 := hc k hlt
      rw [hv] at c0
      have h1 := cat_le ps k
      have h2 := cat_le ps (k + 1)
      have HT := Lib.hid (congrArg List.length (cat_take ps k hlt))
      have h3 : (cat (ps.take k)).length + ps[k].2.length < 1000000 := by have := HT.out; rw [List.length_append] at this; omega
      have hneg : ¬ ((cat (ps.take k)).length : Int) + (ps[k].2.length : Int) < 0 := by omega
      clear hs hc
      go_wp2
      go_roundw
      case rel => exact ⟨k + 1, by omega, by rw [HT.out, List.length_append]; go_num, by go_num, trivial⟩
      case measure => simp [intOf]; omega
    · obtain rfl : k = ps.length := by omega
      have hkk : ¬ (ps.length : Int) < (ps.length : Int) := by omega
      rw [List.take_length] at *
      have HG := Lib.hid (Grow_nil (cat ps).length w hn)
      go_wp2_with (first | (go_at_call 46; refine HG.out.mono ?_; rintro e w1 ⟨v1, rfl, ho1, hb1⟩))
      have HC : Hid (∀ wr, Below w.heap.size w wr → ∀ k (h : k < ps.length), wr.cell? ⟨b, k, none⟩ = some ps[k].1 ∧ Src wr ps[k].1 ps[k].2) := fun wr hwr k h => ⟨(hwr.cell (p := ⟨b, k, none⟩) hb).trans (hc k h), (hs _ (List.getElem_mem h)).below hwr⟩
      clear hc hs hkk hk hlt
      go_loopw [6, 27] (fun v i wr => ∃ k : Nat, k ≤ ps.length ∧ i = .int .i64 k ∧ wr.ownsRow w.heap.size 25 3 v (cat (ps.take k)).length (flat (cat (ps.take k))) ∧ Below w.heap.size w wr) (fun _ i _ => ps.length - (intOf i).toNat)
      case atStart => exact ⟨0, Nat.zero_le _, rfl, by simpa [cat, flat] using ho1, hb1⟩
      case round =>
        obtain ⟨k, hk, rfl, hown, hbr⟩ := hrel
        by_cases hlt : k < ps.length
        · have hki : (k : Int) < (ps.length : Int) := by omega
          obtain ⟨c0, hsrc⟩ := HC.out _ hbr k hlt
          have h1 := cat_le ps k
          have h2 := cat_le ps (k + 1)
          have HT := Lib.hid (cat_take ps k hlt)
          have h3 : (cat (ps.take k)).length + ps[k].2.length < 1000000 := by have := congrArg List.length HT.out; rw [List.length_append] at this; omega
          have hbw : b < wr.heap.size := Nat.lt_of_lt_of_le hb hbr.size
          have HL := Lib.hid hown.lt
          obtain ⟨T, hT⟩ : ∃ T, (cat (ps.take k)).length = T := ⟨_, rfl⟩
          rw [hT] at h1 h3 hown
          rcases hsrc with ⟨hv, hx⟩ | ⟨a, cp, hv, hcell⟩
          · rw [hv] at c0
            clear hT
            go_wp2_with (at_builtin; refine wpList_append_own_none rfl _ _ 22 rfl w.heap.size 25 i0 3 Tryd.underlying22 hi _ _ _ rfl hown rfl ?_)
            go_roundw
            case rel => exact ⟨k + 1, by omega, by go_num, by rw [HT.out, hx, List.append_nil]; exact (own_src hown).1 ▸ hown, hbr⟩
            case measure => simp [intOf]; omega
          · rw [hv] at c0
            have hbs := hbr.size
            have HCell := Lib.hid hcell
            clear hcell hT
            have h63 : T + ps[k].2.length ≤ maxLen := by unfold maxLen; omega
            have hby : (T + ps[k].2.length) * 32 ≤ 140737488355328 := by omega
            go_wp2_with (at_builtin; refine wpList_append_own _ rfl _ _ 22 rfl w.heap.size 25 i0 (.agg #[.string ⟨#[]⟩, .int .i64 0, .int .i64 0]) 3 32 Tryd.underlying22 hi hz0 hz1 hz2 rfl (by decide) _ _ _ rfl hown a _ cp (flat ps[k].2) rfl (flat_length _) HCell.out (flat_one _) h63 hby hbs ?_; intro v' w3 hown' hgrow3 hnil3; have HO := Lib.hid hown'; have HGW := Lib.hid hgrow3; clear hown' hgrow3 hnil3)
            go_roundw
            case rel =>
              refine ⟨k + 1, by omega, by go_num, ?_, Below.grown hbr HGW.out hbs (fun j hj => (HL.out j hj).1)⟩
              have h := HO.out
              rw [← flat_append, ← HT.out] at h
              rw [(own_src h).1] at h
              exact h
            case measure => simp [intOf]; omega
        · obtain rfl : k = ps.length := by omega
          have hkk : ¬ (ps.length : Int) < (ps.length : Int) := by omega
          rw [List.take_length] at hown
          go_wp2
          go_ret
          exact ⟨_, rfl, hown, hbr⟩
end Go.Proofs.YthifejdphflfpaaDoor
