/- What Named of the reference answers: the categories of some labels, rising, each once. -/
import Derived.Test.YtonhdkldacghoaaSame
import Derived.Lib.Hide
import Derived.Lib.SmallJoins
namespace Go.Proofs.Ytonhdkldacghoaa
open Go.RowKit Go.Sort

def icells (cs : List Int) : List Value := cs.map fun c => .int .i64 c
theorem icells_append (a b : List Int) : icells (a ++ b) = icells a ++ icells b := by simp [icells]
theorem icells_one (a : List Int) : ∀ u ∈ icells a, u.oneCell' = true := fun u hu => by
  simp only [icells, List.mem_map] at hu
  obtain ⟨c, _, rfl⟩ := hu; rfl
theorem info3 : (Try.prog.info? 3).map (fun i => (i.zero, i.size, i.bytes)) = some (some (.int .i64 0), 1, 8) := by kernel_rfl
theorem icells_get {cs : List Int} {i : Nat} {u : Value} (h : (icells cs)[i]? = some u) : ∃ h : i < cs.length, u = .int .i64 cs[i] := by
  unfold icells at h
  rw [List.getElem?_map] at h
  obtain ⟨c, hc, rfl⟩ := Option.map_eq_some_iff.1 h
  obtain ⟨hi, rfl⟩ := List.getElem?_eq_some_iff.1 hc
  exact ⟨hi, rfl⟩
theorem addr_plus (b o j : Nat) : (⟨b, o, none⟩ : Addr).add j = ⟨b, o + j, none⟩ := by
  by_cases h : j = 0 <;> simp [Addr.add, h]
theorem cell_one_new' (W : World) (v : Value) (t : TypeId) : ∀ i u, [v][i]? = some u → (W.alloc (.cells #[v] t)).cell? ((⟨W.heap.size, 0, none⟩ : Addr).add i) = some u := fun i u hu => by
  match i, hu with
  | 0, hu => simp at hu; subst hu; simp [Addr.add, go_sem]
theorem own_belowN {W W' : World} {base e size n B : Nat} {v : Value} {xs : List Value} (h : W.ownsRow base e size v n xs) (hb : Below B W W') (hB : W.heap.size ≤ B) : W'.ownsRow base e size v n xs := by
  obtain ⟨h1, h2⟩ := h
  refine ⟨h1, ?_⟩
  rcases h2 with ⟨rfl, hn⟩ | ⟨g, cap, cur, rfl, hg, hh, hr⟩
  · exact .inl ⟨rfl, hn⟩
  · refine .inr ⟨g, cap, cur, rfl, hg, ?_, hr⟩
    have hlt : g < W.heap.size := by
      rcases Nat.lt_or_ge g W.heap.size with h | h
      · exact h
      · rw [Array.getElem?_eq_none h] at hh; cases hh
    rw [hb.block g (by omega)]; exact hh
theorem own_ins {W : World} {B : Nat} {v : Value} {cs zs : List Int} {c : Int} {a : Nat} (h : W.ownsRow B 3 1 v (0 + a + 1 + (cs.length - a)) ([] ++ icells (cs.take a) ++ [.int .i64 c] ++ icells (cs.drop a))) (hz : zs = cs.take a ++ [c] ++ cs.drop a) (ha : a ≤ cs.length) :
    ∃ g cap, v = .slice (some ⟨g, 0, none⟩) zs.length cap ∧ W.ownsRow B 3 1 (.slice (some ⟨g, 0, none⟩) zs.length cap) zs.length (icells zs) := by
  have e1 : 0 + a + 1 + (cs.length - a) = zs.length := by rw [hz]; simp; omega
  have e2 : [] ++ icells (cs.take a) ++ [Value.int .i64 c] ++ icells (cs.drop a) = icells zs := by rw [hz]; simp [icells]
  rw [e1, e2] at h
  have h' := h
  obtain ⟨_, h2⟩ := h
  rcases h2 with ⟨_, hn⟩ | ⟨g, cap, cur, rfl, hr⟩
  · omega
  · exact ⟨g, cap, rfl, h'⟩
def sc (c : Int) : List Int → Nat
  | [] => 0
  | y :: ys => if y < c then sc c ys + 1 else 0
theorem sc_le (c : Int) (cs : List Int) : sc c cs ≤ cs.length := by
  induction cs with
  | nil => simp [sc]
  | cons y ys ih => simp only [sc]; split <;> simp <;> omega
theorem sc_step (c : Int) (cs : List Int) (a : Nat) (h : a < cs.length) : sc c (cs.drop a) = if cs[a] < c then sc c (cs.drop (a + 1)) + 1 else 0 := by
  rw [List.drop_eq_getElem_cons h]; rfl
def ins (c : Int) (cs : List Int) : List Int := if cs[sc c cs]? = some c then cs else cs.take (sc c cs) ++ [c] ++ cs.drop (sc c cs)
theorem ins_len (c : Int) (cs : List Int) : (ins c cs).length ≤ cs.length + 1 := by
  have := sc_le c cs
  unfold ins; split <;> simp <;> omega
def insAll (xs : List (Int × Int)) (cs : List Int) : List Int := xs.foldl (fun out x => ins x.1 out) cs
theorem cell_alloc_old (W : World) (o : Obj) (g a : Nat) (h : g < W.heap.size) : (W.alloc o).cell? ⟨g, a, none⟩ = W.cell? ⟨g, a, none⟩ := ((Below.refl W.heap.size W).alloc (Nat.le_refl _) o).cell (p := ⟨g, a, none⟩) h
theorem insAll_snoc (xs : List (Int × Int)) (cs : List Int) (k : Nat) (h : k < xs.length) : insAll (xs.take (k + 1)) cs = ins xs[k].1 (insAll (xs.take k) cs) := by
  unfold insAll; rw [List.take_succ_eq_append_getElem h, List.foldl_append]; rfl
theorem insAll_len (xs : List (Int × Int)) (cs : List Int) : (insAll xs cs).length ≤ cs.length + xs.length := by
  induction xs generalizing cs with
  | nil => simp [insAll]
  | cons x xs ih =>
    have h1 := ih (ins x.1 cs)
    have h2 := ins_len x.1 cs
    simp only [insAll, List.foldl_cons, List.length_cons] at h1 ⊢
    omega
def namedS (ls : List Lab) : List Int := ls.foldl (fun out l => insAll l.xs out) []
theorem named_snoc (ls : List Lab) (k : Nat) (h : k < ls.length) : namedS (ls.take (k + 1)) = insAll ls[k].xs (namedS (ls.take k)) := by
  unfold namedS; rw [List.take_succ_eq_append_getElem h, List.foldl_append]; rfl
def total (ls : List Lab) : Nat := (ls.map fun l => l.xs.length).sum
theorem named_len (ls : List Lab) (k : Nat) : (namedS (ls.take k)).length ≤ total (ls.take k) := by
  generalize ls.take k = l
  unfold namedS total
  suffices h : ∀ (l : List Lab) (cs : List Int), (l.foldl (fun out l => insAll l.xs out) cs).length ≤ cs.length + (l.map fun l => l.xs.length).sum by simpa using h l []
  intro l
  induction l with
  | nil => intro cs; simp
  | cons x l ih =>
    intro cs
    have h1 := ih (insAll x.xs cs)
    have h2 := insAll_len x.xs cs
    simp only [List.foldl_cons, List.map_cons, List.sum_cons]
    omega
theorem total_take (ls : List Lab) (k : Nat) (h : k < ls.length) : total (ls.take k) + ls[k].xs.length ≤ total ls := by
  have : ls = ls.take k ++ ls[k] :: ls.drop (k + 1) := by rw [← List.drop_eq_getElem_cons h, List.take_append_drop]
  have e : total ls = total (ls.take k) + (ls[k].xs.length + total (ls.drop (k + 1))) := by
    conv => lhs; rw [this]
    simp only [total, List.map_append, List.map_cons, List.sum_append, List.sum_cons]
  omega

set_option maxRecDepth 100000 in
set_option maxHeartbeats 4000000 in
theorem Named_any (b : Nat) (ls : List Lab) (w : World) (hb0 : b < w.heap.size) (hn : ls.length ≤ 16) (ht : total ls ≤ 17592186044000) (hL : LabsAt w b ls) :
    Calls Try.prog 36 #[.slice (some ⟨b, 0, none⟩) ls.length ls.length] w fun e w' => ∃ g cap, e = .returned (.slice (some ⟨g, 0, none⟩) (namedS ls).length cap) ∧ w'.ownsRow w.heap.size 3 1 (.slice (some ⟨g, 0, none⟩) (namedS ls).length cap) (namedS ls).length (icells (namedS ls)) ∧ Below w.heap.size w w' := by
  obtain ⟨i0, hi, hz0, hz1, hz2⟩ := info_parts info3
  have hl0 : (w.alloc (.cells #[] 3)).ownsRow w.heap.size 3 1 (.slice (some ⟨w.heap.size, 0, none⟩) 0 0) 0 [] := World.ownsRow_lit (base := w.heap.size) (e := 3) (size := 1) w #[] 0 (Nat.le_refl _) (by decide) rfl
  have hw0 : Below w.heap.size w (w.alloc (.cells #[] 3)) := by go_grown
  go_enter Try.func36, Try.ntmps36
  go_wp2
  go_loopw [3, 13] (fun r i wr => ∃ (k g cap : Nat), k ≤ ls.length ∧ i = .int .i64 k ∧ r = .slice (some ⟨g, 0, none⟩) (namedS (ls.take k)).length cap ∧ wr.ownsRow w.heap.size 3 1 (.slice (some ⟨g, 0, none⟩) (namedS (ls.take k)).length cap) (namedS (ls.take k)).length (icells (namedS (ls.take k))) ∧ Below w.heap.size w wr) (fun _ i _ => ls.length - (intOf i).toNat)
  case atStart => exact ⟨0, w.heap.size, 0, Nat.zero_le _, rfl, rfl, hl0, hw0⟩
  case round =>
    obtain ⟨k, g, cap, hk, rfl, rfl, hown, hB⟩ := hrel
    obtain ⟨W1, rfl⟩ : ∃ W1, W1 = wr := ⟨wr, rfl⟩
    by_cases hlt : k < ls.length
    · obtain ⟨c0, c1, hc, hm⟩ := hL k hlt
      have e0 := (hB.cell (p := ⟨b, k * 2, none⟩) hb0).trans c0
      have e1 := (hB.cell (p := ⟨b, k * 2 + 1, none⟩) hb0).trans c1
      have HS : Hid (namedS (ls.take (k + 1)) = insAll ls[k].xs (namedS (ls.take k))) := named_snoc ls k hlt
      have hlen : (namedS (ls.take k)).length + ls[k].xs.length ≤ 17592186044000 := by have := named_len ls k; have := total_take ls k hlt; omega
      have hc1 : CatsAt W1 ls[k].p ls[k].xs := hc.below hB
      unfold maxLen at hm
      clear hL hc c0 c1 hl0
      have hbA : Below w.heap.size w (W1.alloc (.cells #[.int .i64 ls[k].d, .slice ls[k].p ls[k].xs.length ls[k].cap] 25)) := hB.alloc hB.size _
      go_wp2
      go_loopw [3, 20] (fun r i wr => ∃ (j g cap : Nat), j ≤ ls[k].xs.length ∧ i = .int .i64 j ∧ r = .slice (some ⟨g, 0, none⟩) (insAll (ls[k].xs.take j) (namedS (ls.take k))).length cap ∧ wr.ownsRow w.heap.size 3 1 (.slice (some ⟨g, 0, none⟩) (insAll (ls[k].xs.take j) (namedS (ls.take k))).length cap) (insAll (ls[k].xs.take j) (namedS (ls.take k))).length (icells (insAll (ls[k].xs.take j) (namedS (ls.take k)))) ∧ Below w.heap.size w wr ∧ Below W1.heap.size W1 wr) (fun _ i _ => ls[k].xs.length - (intOf i).toNat)
      case atStart => exact ⟨0, g, cap, Nat.zero_le _, rfl, rfl, hown.alloc _, hbA, (Below.refl _ _).alloc (Nat.le_refl _) _⟩
      case round =>
        obtain ⟨j, g2, cap2, hj, rfl, rfl, hown2, hB2, hbW⟩ := hrel
        obtain ⟨W2, rfl⟩ : ∃ W2, W2 = wr := ⟨wr, rfl⟩
        by_cases hlt2 : j < ls[k].xs.length
        · obtain ⟨bx, ox, hpx, hblx, x0, x1⟩ := hc1.get hbW (Below.refl _ _) (Nat.le_refl _) j hlt2
          have HJ : Hid (insAll (ls[k].xs.take (j + 1)) (namedS (ls.take k)) = ins ls[k].xs[j].1 (insAll (ls[k].xs.take j) (namedS (ls.take k)))) := insAll_snoc ls[k].xs _ j hlt2
          have hcl : (insAll (ls[k].xs.take j) (namedS (ls.take k))).length ≤ (namedS (ls.take k)).length + j := by
            have := insAll_len (ls[k].xs.take j) (namedS (ls.take k))
            rw [List.length_take, Nat.min_eq_left hj] at this; exact this
          obtain ⟨cs, hcs⟩ : ∃ cs, insAll (ls[k].xs.take j) (namedS (ls.take k)) = cs := ⟨_, rfl⟩
          rw [hcs] at hown2 hcl ⊢
          have HCS : Hid (insAll (ls[k].xs.take j) (namedS (ls.take k)) = cs) := hcs
          clear hcs
          have hncap : cs.length ≤ cap2 := by
            rcases hown2.2 with ⟨h, _⟩ | ⟨_, _, _, h, _, _, h3, _⟩
            · cases h
            · cases h; exact h3
          have hcell : ∀ a, (h : a < cs.length) → W2.cell? ⟨g2, a, none⟩ = some (.int .i64 cs[a]) := fun a h => by
            rw [hown2.cellAt a (by omega)]; simp [icells, h]
          have HCELL : Hid (∀ a, (h : a < cs.length) → W2.cell? ⟨g2, a, none⟩ = some (.int .i64 cs[a])) := hcell
          have hg2 := hown2.lt g2 rfl
          clear hcell
          rw [hpx]
          go_wp2
          go_loopw [8] (fun i wr => ∃ a : Nat, a ≤ cs.length ∧ i = .int .i64 a ∧ sc ls[k].xs[j].1 cs = a + sc ls[k].xs[j].1 (cs.drop a) ∧ Below (W2.heap.size + 1) (W2.alloc (.cells #[.int .i64 ls[k].xs[j].1, .int .i64 ls[k].xs[j].2] 50)) wr) (fun i _ => cs.length - (intOf i).toNat)
          case atStart => exact ⟨0, Nat.zero_le _, rfl, by simp, Below.refl _ _⟩
          case round =>
            obtain ⟨a, hal, rfl, hsc, hb3⟩ := hrel
            have HSC : Hid (sc ls[k].xs[j].1 cs = a + sc ls[k].xs[j].1 (cs.drop a)) := hsc
            clear hsc
            have xb : wr.cell? ⟨W2.heap.size, 0, none⟩ = some (.int .i64 ls[k].xs[j].1) := (hb3.cell (p := ⟨W2.heap.size, 0, none⟩) (by simp)).trans (by simp [go_sem])
            have hg2w : g2 < W2.heap.size := (hown2.lt _ rfl).2
            have hwz : W2.heap.size + 1 ≤ wr.heap.size := by have := hb3.size; simp at this; omega
            have hko : 0 ≤ (a : Int) := by omega
            have hOwn0 : ∀ n, ((wr.drewN n).alloc (.cells #[] 3)).ownsRow wr.heap.size 3 1 (.slice (some ⟨wr.heap.size, 0, none⟩) 0 0) 0 [] := fun n => World.ownsRow_lit (base := wr.heap.size) (e := 3) (size := 1) (wr.drewN n) #[] 0 (Nat.le_refl _) (by decide) rfl
            have HOLD : Hid (∀ W', Below wr.heap.size wr W' → ∀ i, (h : i < cs.length) → W'.cell? ⟨g2, i, none⟩ = some (.int .i64 cs[i])) := fun W' hW' i h =>
              (hW'.cell (p := ⟨g2, i, none⟩) (by simp; omega)).trans ((hb3.cell (p := ⟨g2, i, none⟩) (by simp; omega)).trans ((cell_alloc_old W2 _ g2 i hg2w).trans (HCELL.out i h)))
            have HN1 : Hid (∀ n i u, (icells (cs.take a))[i]? = some u → ((wr.drewN n).alloc (.cells #[] 3)).cell? ((⟨g2, 0, none⟩ : Addr).add i) = some u) := fun n i u hu => by
              obtain ⟨h, rfl⟩ := icells_get hu
              have h' : i < cs.length := by rw [List.length_take] at h; omega
              rw [addr_plus, Nat.zero_add, HOLD.out _ ((bdn (Below.refl _ wr) n).alloc (Nat.le_refl _) _) i h', List.getElem_take]
            have HOLD3 : Hid (∀ W', Below wr.heap.size wr W' → ∀ i u, (icells (cs.drop a))[i]? = some u → W'.cell? ((⟨g2, a, none⟩ : Addr).add i) = some u) := fun W' hW' i u hu => by
              obtain ⟨h, rfl⟩ := icells_get hu
              have h' : a + i < cs.length := by rw [List.length_drop] at h; omega
              rw [addr_plus, HOLD.out _ hW' (a + i) h', List.getElem_drop]
            have HT1 : Hid ((icells (cs.take a)).length = a * 1) := by simp only [Hid, icells, List.length_map, List.length_take]; omega
            have HT3 : Hid ((icells (cs.drop a)).length = (cs.length - a) * 1) := by simp only [Hid, icells, List.length_map, List.length_drop]; omega
            have h63a : 0 + a ≤ maxLen := by unfold maxLen; omega
            have hbya : (0 + a) * 8 ≤ 140737488355328 := by omega
            have h63b : 0 + a + 1 ≤ maxLen := by unfold maxLen; omega
            have hbyb : (0 + a + 1) * 8 ≤ 140737488355328 := by omega
            have h63c : 0 + a + 1 + (cs.length - a) ≤ maxLen := by unfold maxLen; omega
            have hbyc : (0 + a + 1 + (cs.length - a)) * 8 ≤ 140737488355328 := by omega
            have hai' : (a : Int) ≤ (cs.length : Int) := by omega
            have hac : a ≤ cap2 := by omega
            by_cases hlt3 : a < cs.length
            · have hx : wr.cell? ⟨g2, a, none⟩ = some (.int .i64 cs[a]) := (hb3.cell (p := ⟨g2, a, none⟩) (by simp; omega)).trans ((cell_alloc_old W2 _ g2 a hg2w).trans (HCELL.out a hlt3))
              have HT : Hid (sc ls[k].xs[j].1 (cs.drop a) = if cs[a] < ls[k].xs[j].1 then sc ls[k].xs[j].1 (cs.drop (a + 1)) + 1 else 0) := sc_step _ cs a hlt3
              have hai : (a : Int) < (cs.length : Int) := by omega
              by_cases hc3 : cs[a] < ls[k].xs[j].1
              · go_wp2
                go_quiet (fail)
                go_wp2
                go_roundw
                case rel => exact ⟨a + 1, by omega, by go_num, by rw [HSC.out, HT.out, if_pos hc3]; omega, bdn hb3 _⟩
                case measure => simp [intOf]; omega
              · have HA0 : Hid (sc ls[k].xs[j].1 cs = a) := by have := HSC.out; rw [HT.out, if_neg hc3] at this; exact this
                by_cases hc4 : cs[a] = ls[k].xs[j].1
                · have hc5 : (cs[a] == ls[k].xs[j].1) = true := by simp [hc4]
                  have HI : Hid (ins ls[k].xs[j].1 cs = cs) := by simp only [Hid, ins]; rw [HA0.out, if_pos (by rw [List.getElem?_eq_getElem hlt3, hc4])]
                  clear hc4
                  go_wp2
                  go_quiet (fail)
                  go_wp2
                  go_quiet (fail)
                  go_wp2
                  refine ⟨⟨j + 1, g2, cap2, by omega, by go_num, ?_, ?_, ?_, ?_⟩, ?_⟩
                  · rw [HJ.out, HCS.out, HI.out]
                  · rw [HJ.out, HCS.out, HI.out]; exact own_belowN (own_belowN (hown2.alloc _) hb3 (by simp)) (bdn (Below.refl wr.heap.size wr) _) (Nat.le_refl _)
                  · exact bdn ((hB2.alloc hB2.size _).trans (hb3.mono (by have := hB2.size; omega))) _
                  · exact bdn ((hbW.alloc hbW.size _).trans (hb3.mono (by have := hbW.size; omega))) _
                  · simp [intOf]; omega
                · have hc5 : (cs[a] == ls[k].xs[j].1) = false := by simp [hc4]
                  have HI : Hid (ins ls[k].xs[j].1 cs = cs.take a ++ [ls[k].xs[j].1] ++ cs.drop a) := by simp only [Hid, ins]; rw [HA0.out, if_neg (by rw [List.getElem?_eq_getElem hlt3]; simpa using hc4)]
                  go_wp2
                  go_quiet (fail)
                  go_wp2
                  go_quiet (fail)
                  go_wp2_with (at_builtin; refine wpList_append_own _ rfl _ _ 28 rfl wr.heap.size 3 i0 (.int .i64 0) 1 8 Try.underlying28 hi hz0 hz1 hz2 rfl (by decide) _ _ _ rfl (hOwn0 _) ⟨g2, 0, none⟩ a cap2 (icells (cs.take a)) rfl HT1.out (HN1.out _) (icells_one _) h63a hbya (by simp) ?_; intro v4 w4 hown4 hgrow4 hnil4; refine Hid.out ?_)
                  refine Lib.hid ?_
                  have hb4 : Below wr.heap.size wr w4 := Below.grown (((bdn (Below.refl _ wr) _).alloc (Nat.le_refl _) _)) hgrow4 (by simp) (fun j hj => ((hOwn0 0).lt _ hj).1)
                  have hz4 : wr.heap.size + 1 ≤ w4.heap.size := by have := hgrow4.size; simp at this; omega
                  have xb4 : w4.cell? ⟨W2.heap.size, 0, none⟩ = some (.int .i64 ls[k].xs[j].1) := (hb4.cell (p := ⟨W2.heap.size, 0, none⟩) (by simp; omega)).trans xb
                  have hown4A := hown4.alloc (.cells #[.int .i64 ls[k].xs[j].1] 3)
                  have HO : Hid (∀ i u, [Value.int .i64 ls[k].xs[j].1][i]? = some u → (w4.alloc (.cells #[.int .i64 ls[k].xs[j].1] 3)).cell? ((⟨w4.heap.size, 0, none⟩ : Addr).add i) = some u) := cell_one_new' w4 _ 3
                  have hbA4 : Below wr.heap.size wr (w4.alloc (.cells #[.int .i64 ls[k].xs[j].1] 3)) := hb4.alloc (by omega) _
                  clear hnil4 hgrow4
                  go_wp2_with (at_builtin; refine wpList_append_own _ rfl _ _ 28 rfl wr.heap.size 3 i0 (.int .i64 0) 1 8 Try.underlying28 hi hz0 hz1 hz2 rfl (by decide) _ _ _ rfl hown4A ⟨w4.heap.size, 0, none⟩ 1 1 [.int .i64 ls[k].xs[j].1] rfl rfl HO.out (fun x hx => by simp at hx; subst hx; rfl) h63b hbyb (by simp <;> omega) ?_; intro v5 w5 hown5 hgrow5 hnil5; refine Hid.out ?_)
                  refine Lib.hid ?_
                  have hb5 : Below wr.heap.size wr w5 := Below.grown hbA4 hgrow5 (by simp <;> omega) (fun j hj => (hown4A.lt _ hj).1)
                  have hz5 : wr.heap.size + 1 ≤ w5.heap.size := by have := hgrow5.size; simp at this; omega
                  have HN3 : Hid (∀ i u, (icells (cs.drop a))[i]? = some u → w5.cell? ((⟨g2, a, none⟩ : Addr).add i) = some u) := HOLD3.out w5 hb5
                  clear hnil5 hgrow5
                  go_wp2_with (at_builtin; refine wpList_append_own _ rfl _ _ 28 rfl wr.heap.size 3 i0 (.int .i64 0) 1 8 Try.underlying28 hi hz0 hz1 hz2 rfl (by decide) _ _ _ rfl hown5 ⟨g2, a, none⟩ (cs.length - a) _ (icells (cs.drop a)) rfl HT3.out HN3.out (icells_one _) h63c hbyc (by omega) ?_; intro v6 w6 hown6 hgrow6 hnil6; refine Hid.out ?_)
                  refine Lib.hid ?_
                  have hb6 : Below wr.heap.size wr w6 := Below.grown hb5 hgrow6 (by omega) (fun j hj => (hown5.lt _ hj).1)
                  obtain ⟨g6, cap6, rfl, hown7⟩ := own_ins hown6 HI.out hal
                  clear hown6 hgrow6 hnil6
                  go_wp2
                  refine ⟨⟨j + 1, g6, cap6, by omega, by go_num, ?_, ?_, ?_, ?_⟩, ?_⟩
                  · rw [HJ.out, HCS.out]
                  · rw [HJ.out, HCS.out]; exact Joins.ownsRow_le hown7 (by have := hB2.size; omega)
                  · exact ((hB2.alloc hB2.size _).trans (hb3.mono (by have := hB2.size; omega))).trans (hb6.mono (by have := hB2.size; omega))
                  · exact ((hbW.alloc hbW.size _).trans (hb3.mono (by have := hbW.size; omega))).trans (hb6.mono (by have := hbW.size; omega))
                  · simp [intOf]; omega
            · have ha : a = cs.length := by omega
              have HI : Hid (ins ls[k].xs[j].1 cs = cs.take a ++ [ls[k].xs[j].1] ++ cs.drop a) := by
                have hs := HSC.out
                rw [List.drop_of_length_le (by omega)] at hs
                simp only [sc, Nat.add_zero] at hs
                simp only [Hid, ins]; rw [hs, if_neg (by rw [List.getElem?_eq_none (by omega)]; simp)]
              have hni : decide ((a : Int) < (cs.length : Int)) = false := by simp; omega
              clear ha
              go_wp2
              go_quiet (fail)
              go_wp2
              go_quiet (fail)
              go_wp2_with (at_builtin; refine wpList_append_own _ rfl _ _ 28 rfl wr.heap.size 3 i0 (.int .i64 0) 1 8 Try.underlying28 hi hz0 hz1 hz2 rfl (by decide) _ _ _ rfl (hOwn0 _) ⟨g2, 0, none⟩ a cap2 (icells (cs.take a)) rfl HT1.out (HN1.out _) (icells_one _) h63a hbya (by simp) ?_; intro v4 w4 hown4 hgrow4 hnil4; refine Hid.out ?_)
              refine Lib.hid ?_
              have hb4 : Below wr.heap.size wr w4 := Below.grown (((bdn (Below.refl _ wr) _).alloc (Nat.le_refl _) _)) hgrow4 (by simp) (fun j hj => ((hOwn0 0).lt _ hj).1)
              have hz4 : wr.heap.size + 1 ≤ w4.heap.size := by have := hgrow4.size; simp at this; omega
              have xb4 : w4.cell? ⟨W2.heap.size, 0, none⟩ = some (.int .i64 ls[k].xs[j].1) := (hb4.cell (p := ⟨W2.heap.size, 0, none⟩) (by simp; omega)).trans xb
              have hown4A := hown4.alloc (.cells #[.int .i64 ls[k].xs[j].1] 3)
              have HO : Hid (∀ i u, [Value.int .i64 ls[k].xs[j].1][i]? = some u → (w4.alloc (.cells #[.int .i64 ls[k].xs[j].1] 3)).cell? ((⟨w4.heap.size, 0, none⟩ : Addr).add i) = some u) := cell_one_new' w4 _ 3
              have hbA4 : Below wr.heap.size wr (w4.alloc (.cells #[.int .i64 ls[k].xs[j].1] 3)) := hb4.alloc (by omega) _
              clear hnil4 hgrow4
              go_wp2_with (at_builtin; refine wpList_append_own _ rfl _ _ 28 rfl wr.heap.size 3 i0 (.int .i64 0) 1 8 Try.underlying28 hi hz0 hz1 hz2 rfl (by decide) _ _ _ rfl hown4A ⟨w4.heap.size, 0, none⟩ 1 1 [.int .i64 ls[k].xs[j].1] rfl rfl HO.out (fun x hx => by simp at hx; subst hx; rfl) h63b hbyb (by simp <;> omega) ?_; intro v5 w5 hown5 hgrow5 hnil5; refine Hid.out ?_)
              refine Lib.hid ?_
              have hb5 : Below wr.heap.size wr w5 := Below.grown hbA4 hgrow5 (by simp <;> omega) (fun j hj => (hown4A.lt _ hj).1)
              have hz5 : wr.heap.size + 1 ≤ w5.heap.size := by have := hgrow5.size; simp at this; omega
              have HN3 : Hid (∀ (ad : Addr) i u, (icells (cs.drop a))[i]? = some u → w5.cell? (ad.add i) = some u) := fun ad i u hu => by rw [List.drop_of_length_le (by omega)] at hu; simp [icells] at hu
              clear hnil5 hgrow5
              rcases Nat.eq_or_lt_of_le hac with rfl | hcc
              · have HE : Hid (icells (cs.drop a) = [] ∧ cs.length - a = 0) := ⟨by rw [List.drop_of_length_le (by omega)]; rfl, by omega⟩
                go_wp2_with (at_builtin; refine wpList_append_own _ rfl _ _ 28 rfl wr.heap.size 3 i0 (.int .i64 0) 1 8 Try.underlying28 hi hz0 hz1 hz2 rfl (by decide) _ _ _ rfl hown5 ⟨g2, 0, none⟩ 0 0 [] rfl rfl (by simp) (by simp) h63b hbyb (by omega) ?_; intro v6 w6 hown6 hgrow6 hnil6; refine Hid.out ?_)
                refine Lib.hid ?_
                have hown6' : w6.ownsRow wr.heap.size 3 1 v6 (0 + a + 1 + (cs.length - a)) ([] ++ icells (cs.take a) ++ [.int .i64 ls[k].xs[j].1] ++ icells (cs.drop a)) := by rw [HE.out.1, HE.out.2]; exact hown6
                have hb6 : Below wr.heap.size wr w6 := Below.grown hb5 hgrow6 (by omega) (fun j hj => (hown5.lt _ hj).1)
                obtain ⟨g6, cap6, rfl, hown7⟩ := own_ins hown6' HI.out hal
                clear hown6 hown6' hgrow6 hnil6
                go_wp2
                refine ⟨⟨j + 1, g6, cap6, by omega, by go_num, ?_, ?_, ?_, ?_⟩, ?_⟩
                · rw [HJ.out, HCS.out]
                · rw [HJ.out, HCS.out]; exact Joins.ownsRow_le hown7 (by have := hB2.size; omega)
                · exact ((hB2.alloc hB2.size _).trans (hb3.mono (by have := hB2.size; omega))).trans (hb6.mono (by have := hB2.size; omega))
                · exact ((hbW.alloc hbW.size _).trans (hb3.mono (by have := hbW.size; omega))).trans (hb6.mono (by have := hbW.size; omega))
                · simp [intOf]; omega
              · go_wp2_with (at_builtin; refine wpList_append_own _ rfl _ _ 28 rfl wr.heap.size 3 i0 (.int .i64 0) 1 8 Try.underlying28 hi hz0 hz1 hz2 rfl (by decide) _ _ _ rfl hown5 ⟨g2, a, none⟩ (cs.length - a) _ (icells (cs.drop a)) rfl HT3.out (HN3.out _) (icells_one _) h63c hbyc (by omega) ?_; intro v6 w6 hown6 hgrow6 hnil6; refine Hid.out ?_)
                refine Lib.hid ?_
                have hown6' := hown6
                have hb6 : Below wr.heap.size wr w6 := Below.grown hb5 hgrow6 (by omega) (fun j hj => (hown5.lt _ hj).1)
                obtain ⟨g6, cap6, rfl, hown7⟩ := own_ins hown6' HI.out hal
                clear hown6 hown6' hgrow6 hnil6
                go_wp2
                refine ⟨⟨j + 1, g6, cap6, by omega, by go_num, ?_, ?_, ?_, ?_⟩, ?_⟩
                · rw [HJ.out, HCS.out]
                · rw [HJ.out, HCS.out]; exact Joins.ownsRow_le hown7 (by have := hB2.size; omega)
                · exact ((hB2.alloc hB2.size _).trans (hb3.mono (by have := hB2.size; omega))).trans (hb6.mono (by have := hB2.size; omega))
                · exact ((hbW.alloc hbW.size _).trans (hb3.mono (by have := hbW.size; omega))).trans (hb6.mono (by have := hbW.size; omega))
                · simp [intOf]; omega
        · have hj' : ls[k].xs.take j = ls[k].xs := List.take_of_length_le (by omega)
          rw [hj'] at hown2 ⊢
          go_wp2
          refine ⟨⟨k + 1, g2, cap2, by omega, by go_num, ?_, ?_, ?_⟩, ?_⟩
          · rw [HS.out]
          · rw [HS.out]; exact hown2
          · exact hB2
          · simp [intOf]; omega
    · have hk' : ls.take k = ls := List.take_of_length_le (by omega)
      rw [hk'] at hown ⊢
      go_wp2
      go_ret
      exact ⟨g, cap, rfl, hown, hB⟩
end Go.Proofs.Ytonhdkldacghoaa
