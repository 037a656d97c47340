/- What Rising of layer 11's reference answers, for every row of numbers that is not too long. -/
import Derived.Test.YtonhdkldacghoaaSameI
import Derived.Test.YtonhdkldacghoaaVis
namespace Go.Proofs.Ytonhdkldacghoaa
open Go.RowKit Go.Sort

def ins2 (c : Int) (cs : List Int) : List Int := cs.take (sc c cs) ++ [c] ++ cs.drop (sc c cs)
theorem ins2_len (c : Int) (cs : List Int) : (ins2 c cs).length = cs.length + 1 := by
  have := sc_le c cs
  unfold ins2; simp; omega
theorem ins2_perm (c : Int) (cs : List Int) : (ins2 c cs).Perm (c :: cs) := by
  unfold ins2
  rw [List.append_assoc, List.singleton_append]
  refine List.perm_middle.trans ?_
  rw [List.take_append_drop]
theorem sc_lt {c : Int} : ∀ {cs : List Int} (i : Nat) (_ : i < sc c cs) (h : i < cs.length), cs[i] < c
  | [], i, _, h => by simp at h
  | y :: ys, i, hi, h => by
    unfold sc at hi
    split at hi
    · next hy =>
      cases i with
      | zero => exact hy
      | succ i => exact sc_lt i (by omega) (by simpa using h)
    · omega
theorem sc_ge {c : Int} : ∀ {cs : List Int} (h : sc c cs < cs.length), ¬ cs[sc c cs] < c
  | [], h => by simp at h
  | y :: ys, h => by
    by_cases hy : y < c
    · have e : sc c (y :: ys) = sc c ys + 1 := by simp [sc, hy]
      simp only [e] at h ⊢
      simpa using sc_ge (cs := ys) (by simpa using h)
    · have e : sc c (y :: ys) = 0 := by simp [sc, hy]
      simp only [e]
      exact hy
theorem ins2_up {c : Int} {cs : List Int} (hs : cs.Pairwise (· < ·)) (hc : c ∉ cs) : (ins2 c cs).Pairwise (· < ·) := by
  unfold ins2
  rw [List.append_assoc, List.pairwise_append]
  have hd : ∀ y ∈ cs.drop (sc c cs), c < y := fun y hy => by
    obtain ⟨j, hj, rfl⟩ := List.getElem_of_mem hy
    rw [List.length_drop] at hj
    rw [List.getElem_drop]
    have h0 := sc_ge (c := c) (cs := cs) (by omega)
    have hle : cs[sc c cs]'(by omega) ≤ cs[sc c cs + j] := by
      rcases Nat.eq_zero_or_pos j with rfl | hp
      · exact Int.le_refl _
      · exact Int.le_of_lt (List.pairwise_iff_getElem.1 hs _ _ _ _ (by omega))
    have hne : c ≠ cs[sc c cs + j] := fun e => hc (by rw [e]; exact List.getElem_mem _)
    omega
  refine ⟨hs.sublist (List.take_sublist _ _), ?_, ?_⟩
  · rw [List.singleton_append, List.pairwise_cons]
    exact ⟨hd, hs.sublist (List.drop_sublist _ _)⟩
  · intro a ha b hb
    obtain ⟨i, hi, rfl⟩ := List.getElem_of_mem ha
    rw [List.length_take] at hi
    rw [List.getElem_take]
    have h1 := sc_lt (c := c) (cs := cs) i (by omega) (by omega)
    rcases List.mem_cons.1 (by simpa using hb) with rfl | hb
    · exact h1
    · exact Int.lt_trans h1 (hd b hb)
def risL (l : List Int) : List Int := l.foldl (fun out x => ins2 x out) []
theorem risL_snoc (l : List Int) (k : Nat) (h : k < l.length) : risL (l.take (k + 1)) = ins2 l[k] (risL (l.take k)) := by
  unfold risL; rw [List.take_succ_eq_append_getElem h, List.foldl_append]; rfl
theorem ris_fold : ∀ (l out : List Int), (out ++ l).Nodup → out.Pairwise (· < ·) → (l.foldl (fun out x => ins2 x out) out).Pairwise (· < ·) ∧ (l.foldl (fun out x => ins2 x out) out).Perm (out ++ l)
  | [], out, _, h => by simpa using h
  | x :: l, out, hn, h => by
    have hx : x ∉ out := fun hx => by
      rw [List.nodup_append] at hn
      exact hn.2.2 x hx x (by simp) rfl
    have hp := ins2_perm x out
    have hp2 : (ins2 x out ++ l).Perm (out ++ x :: l) := (hp.append_right l).trans (by simpa using (List.perm_middle (a := x) (l₁ := out) (l₂ := l)).symm)
    obtain ⟨h1, h2⟩ := ris_fold l (ins2 x out) (hp2.nodup_iff.2 hn) (ins2_up h hx)
    exact ⟨h1, h2.trans hp2⟩
theorem ris_ok {l : List Int} (h : l.Nodup) : (risL l).Pairwise (· < ·) ∧ (risL l).Perm l := by
  have := ris_fold l [] (by simpa using h) List.Pairwise.nil
  simpa [risL] using this
theorem risL_len : ∀ (l : List Int), (risL l).length = l.length := by
  suffices h : ∀ (l out : List Int), (l.foldl (fun out x => ins2 x out) out).length = out.length + l.length by intro l; simpa [risL] using h l []
  intro l
  induction l with
  | nil => intro out; simp
  | cons x l ih => intro out; rw [List.foldl_cons, ih, ins2_len]; simp; omega
set_option maxRecDepth 100000 in
set_option maxHeartbeats 4000000 in
theorem Rising_any (p : Option Addr) (cp : Nat) (l : List Int) (w : World) (hl : l.length ≤ 100000) (h : IntsAt w p l) :
    Calls Try.prog 35 #[.slice p l.length cp] w fun e w' => ∃ g cap, e = .returned (.slice (some ⟨g, 0, none⟩) (risL l).length cap) ∧ w'.ownsRow w.heap.size 3 1 (.slice (some ⟨g, 0, none⟩) (risL l).length cap) (risL l).length (icells (risL l)) ∧ Below w.heap.size w w' := by
  obtain ⟨i0, hi, hz0, hz1, hz2⟩ := info_parts info3
  have hl0 : (w.alloc (.cells #[] 3)).ownsRow w.heap.size 3 1 (.slice (some ⟨w.heap.size, 0, none⟩) 0 0) 0 [] := World.ownsRow_lit (base := w.heap.size) (e := 3) (size := 1) w #[] 0 (Nat.le_refl _) (by decide) rfl
  have hw0 : Below w.heap.size w (w.alloc (.cells #[] 3)) := by go_grown
  have HI := Lib.hid h
  clear h
  go_enter Try.func35, Try.ntmps35
  go_wp2
  go_loopw [3, 11] (fun r i wr => ∃ (k g cap : Nat), k ≤ l.length ∧ i = .int .i64 k ∧ r = .slice (some ⟨g, 0, none⟩) (risL (l.take k)).length cap ∧ wr.ownsRow w.heap.size 3 1 (.slice (some ⟨g, 0, none⟩) (risL (l.take k)).length cap) (risL (l.take k)).length (icells (risL (l.take k))) ∧ Below w.heap.size w wr) (fun _ i _ => l.length - (intOf i).toNat)
  case atStart => exact ⟨0, w.heap.size, 0, Nat.zero_le _, rfl, rfl, hl0, hw0⟩
  case round =>
    obtain ⟨k, g, cap, hk, rfl, rfl, hown, hB⟩ := hrel
    clear hl0 hw0
    by_cases hlt : k < l.length
    · obtain ⟨gp, op, rfl, hgp, cgp⟩ := (HI.out.below hB) k hlt
      have HS := Lib.hid (risL_snoc l k hlt)
      have hcl : (risL (l.take k)).length ≤ 100000 := by rw [risL_len, List.length_take]; omega
      have hki : (k : Int) < (l.length : Int) := by omega
      obtain ⟨x, hx⟩ : ∃ x, l[k] = x := ⟨_, rfl⟩
      rw [hx] at cgp HS
      obtain ⟨cs, hcs⟩ : ∃ cs, risL (l.take k) = cs := ⟨_, rfl⟩
      rw [hcs] at hown hcl HS ⊢
      obtain ⟨W2, hW2⟩ : ∃ W2, W2 = wr := ⟨_, rfl⟩
      rw [← hW2] at hown hB hgp cgp ⊢
      clear hcs hx hW2 wr
      have hncap : cs.length ≤ cap := by
        rcases hown.2 with ⟨h, _⟩ | ⟨_, _, _, h, _, _, h3, _⟩
        · cases h
        · cases h; exact h3
      have HCELL : Hid (∀ a, (h : a < cs.length) → W2.cell? ⟨g, a, none⟩ = some (.int .i64 cs[a])) := Lib.hid (fun a h => by rw [hown.cellAt a (by omega)]; simp [icells, h])
      have hg2 := hown.lt g rfl
      go_wp2
      go_loopw [6] (fun i wr => ∃ a : Nat, a ≤ cs.length ∧ i = .int .i64 a ∧ sc x cs = a + sc x (cs.drop a) ∧ wr = W2) (fun i _ => cs.length - (intOf i).toNat)
      case atStart => exact ⟨0, Nat.zero_le _, rfl, by simp, rfl⟩
      case round =>
        obtain ⟨a, hal, rfl, hsc, hwr⟩ := hrel
        rw [hwr]
        clear hwr wr
        have HSC := Lib.hid hsc
        clear hsc
        have hgw : g < W2.heap.size := hg2.2
        have hko : 0 ≤ (a : Int) := by omega
        have hai' : (a : Int) ≤ (cs.length : Int) := by omega
        have hac : a ≤ cap := by omega
        have hOwn0 : (W2.alloc (.cells #[] 3)).ownsRow W2.heap.size 3 1 (.slice (some ⟨W2.heap.size, 0, none⟩) 0 0) 0 [] := World.ownsRow_lit (base := W2.heap.size) (e := 3) (size := 1) W2 #[] 0 (Nat.le_refl _) (by decide) rfl
        have HOLD : Hid (∀ W', Below W2.heap.size W2 W' → ∀ i, (h : i < cs.length) → W'.cell? ⟨g, i, none⟩ = some (.int .i64 cs[i])) := Lib.hid (fun W' hW' i h => (hW'.cell (p := ⟨g, i, none⟩) hgw).trans (HCELL.out i h))
        have HN1 : Hid (∀ i u, (icells (cs.take a))[i]? = some u → (W2.alloc (.cells #[] 3)).cell? ((⟨g, 0, none⟩ : Addr).add i) = some u) := Lib.hid (fun i u hu => by
          obtain ⟨h, rfl⟩ := icells_get hu
          have h' : i < cs.length := by rw [List.length_take] at h; omega
          rw [addr_plus, Nat.zero_add, HOLD.out _ ((Below.refl _ W2).alloc (Nat.le_refl _) _) i h', List.getElem_take])
        have HOLD3 : Hid (∀ W', Below W2.heap.size W2 W' → ∀ i u, (icells (cs.drop a))[i]? = some u → W'.cell? ((⟨g, a, none⟩ : Addr).add i) = some u) := Lib.hid (fun W' hW' i u hu => by
          obtain ⟨h, rfl⟩ := icells_get hu
          have h' : a + i < cs.length := by rw [List.length_drop] at h; omega
          rw [addr_plus, HOLD.out _ hW' (a + i) h', List.getElem_drop])
        have HT1 : Hid ((icells (cs.take a)).length = a * 1) := by simp only [Hid, icells, List.length_map, List.length_take]; omega
        have HT3 : Hid ((icells (cs.drop a)).length = (cs.length - a) * 1) := by simp only [Hid, icells, List.length_map, List.length_drop]; omega
        have h63a : 0 + a ≤ maxLen := by unfold maxLen; omega
        have hbya : (0 + a) * 8 ≤ 140737488355328 := by omega
        have h63b : 0 + a + 1 ≤ maxLen := by unfold maxLen; omega
        have hbyb : (0 + a + 1) * 8 ≤ 140737488355328 := by omega
        have h63c : 0 + a + 1 + (cs.length - a) ≤ maxLen := by unfold maxLen; omega
        have hbyc : (0 + a + 1 + (cs.length - a)) * 8 ≤ 140737488355328 := by omega
        by_cases hin : ∃ h : a < cs.length, cs[a] < x
        · obtain ⟨hlt3, hc3⟩ := hin
          have hxa := HCELL.out a hlt3
          have HT := Lib.hid (sc_step x cs a hlt3)
          have hai : (a : Int) < (cs.length : Int) := by omega
          have HNx : Hid (sc x cs = (a + 1) + sc x (cs.drop (a + 1))) := Lib.hid (by rw [HSC.out, HT.out, if_pos hc3]; omega)
          obtain ⟨y, hy⟩ : ∃ y, cs[a] = y := ⟨_, rfl⟩
          rw [hy] at hxa hc3
          clear hy HT HSC HOLD HOLD3 HN1 HT1 HT3
          go_wp2
          go_roundw
          case rel => exact ⟨a + 1, by omega, by go_num, HNx.out, trivial⟩
          case measure => simp [intOf]; omega
        · have HA0 : Hid (sc x cs = a) := Lib.hid (by
            have := HSC.out
            by_cases hlt3 : a < cs.length
            · rw [sc_step x cs a hlt3, if_neg (fun h => hin ⟨hlt3, h⟩)] at this; exact this
            · rw [List.drop_of_length_le (by omega)] at this; simpa [sc] using this)
          have HI2 : Hid (ins2 x cs = cs.take a ++ [x] ++ cs.drop a) := Lib.hid (by unfold ins2; rw [HA0.out])
          by_cases hlt3 : a < cs.length
          · have hxa := HCELL.out a hlt3
            have hai : (a : Int) < (cs.length : Int) := by omega
            have hc3 : ¬ cs[a] < x := fun h => hin ⟨hlt3, h⟩
            obtain ⟨y, hy⟩ : ∃ y, cs[a] = y := ⟨_, rfl⟩
            rw [hy] at hxa hc3
            have hcc : a < cap := by omega
            clear hy hin HSC
            go_wp2_with (at_builtin; refine wpList_append_own _ rfl _ _ 28 rfl W2.heap.size 3 i0 (.int .i64 0) 1 8 Try.underlying28 hi hz0 hz1 hz2 rfl (by decide) _ _ _ rfl hOwn0 ⟨g, 0, none⟩ a cap (icells (cs.take a)) rfl HT1.out HN1.out (icells_one _) h63a hbya (by simp) ?_; intro v4 w4 hown4 hgrow4 hnil4; refine Hid.out ?_)
            refine Lib.hid ?_
            have hb4 : Below W2.heap.size W2 w4 := Below.grown ((Below.refl _ W2).alloc (Nat.le_refl _) _) hgrow4 (by simp) (fun j hj => (hOwn0.lt _ hj).1)
            have hz4 : W2.heap.size + 1 ≤ w4.heap.size := by have := hgrow4.size; simp at this; omega
            have hown4A := hown4.alloc (.cells #[.int .i64 x] 3)
            have HO : Hid (∀ i u, [Value.int .i64 x][i]? = some u → (w4.alloc (.cells #[.int .i64 x] 3)).cell? ((⟨w4.heap.size, 0, none⟩ : Addr).add i) = some u) := cell_one_new' w4 _ 3
            have hbA4 : Below W2.heap.size W2 (w4.alloc (.cells #[.int .i64 x] 3)) := hb4.alloc (by omega) _
            clear hnil4 hgrow4
            go_wp2_with (at_builtin; refine wpList_append_own _ rfl _ _ 28 rfl W2.heap.size 3 i0 (.int .i64 0) 1 8 Try.underlying28 hi hz0 hz1 hz2 rfl (by decide) _ _ _ rfl hown4A ⟨w4.heap.size, 0, none⟩ 1 1 [.int .i64 x] rfl rfl HO.out (fun y hy => by simp at hy; subst hy; rfl) h63b hbyb (by simp <;> omega) ?_; intro v5 w5 hown5 hgrow5 hnil5; refine Hid.out ?_)
            refine Lib.hid ?_
            have hb5 : Below W2.heap.size W2 w5 := Below.grown hbA4 hgrow5 (by simp <;> omega) (fun j hj => (hown4A.lt _ hj).1)
            have hz5 : W2.heap.size + 1 ≤ w5.heap.size := by have := hgrow5.size; simp at this; omega
            clear hnil5 hgrow5
            have HN3 : Hid (∀ i u, (icells (cs.drop a))[i]? = some u → w5.cell? ((⟨g, a, none⟩ : Addr).add i) = some u) := Lib.hid (HOLD3.out w5 hb5)
            go_wp2_with (at_builtin; refine wpList_append_own _ rfl _ _ 28 rfl W2.heap.size 3 i0 (.int .i64 0) 1 8 Try.underlying28 hi hz0 hz1 hz2 rfl (by decide) _ _ _ rfl hown5 ⟨g, a, none⟩ (cs.length - a) _ (icells (cs.drop a)) rfl HT3.out HN3.out (icells_one _) h63c hbyc (by omega) ?_; intro v6 w6 hown6 hgrow6 hnil6; refine Hid.out ?_)
            refine Lib.hid ?_
            have hown6' := hown6
            have hb6 : Below W2.heap.size W2 w6 := Below.grown hb5 hgrow6 (by omega) (fun j hj => (hown5.lt _ hj).1)
            obtain ⟨g6, cap6, rfl, hown7⟩ := own_ins hown6' HI2.out hal
            clear hown6 hown6' hgrow6 hnil6
            go_wp2
            refine ⟨⟨k + 1, g6, cap6, by omega, by go_num, ?_, ?_, ?_⟩, ?_⟩
            · rw [HS.out]
            · rw [HS.out]; exact Joins.ownsRow_le hown7 (by have := hB.size; omega)
            · exact hB.trans (hb6.mono hB.size)
            · simp [intOf]; omega
          · have hni : decide ((a : Int) < (cs.length : Int)) = false := by simp; omega
            have hni2 : decide (a < cs.length) = false := by simp; omega
            have HDr : Hid (cs.drop a = [] ∧ cs.length - a = 0) := Lib.hid ⟨List.drop_of_length_le (by omega), by omega⟩
            clear hin HSC hlt3
            go_wp2_with (at_builtin; refine wpList_append_own _ rfl _ _ 28 rfl W2.heap.size 3 i0 (.int .i64 0) 1 8 Try.underlying28 hi hz0 hz1 hz2 rfl (by decide) _ _ _ rfl hOwn0 ⟨g, 0, none⟩ a cap (icells (cs.take a)) rfl HT1.out HN1.out (icells_one _) h63a hbya (by simp) ?_; intro v4 w4 hown4 hgrow4 hnil4; refine Hid.out ?_)
            refine Lib.hid ?_
            have hb4 : Below W2.heap.size W2 w4 := Below.grown ((Below.refl _ W2).alloc (Nat.le_refl _) _) hgrow4 (by simp) (fun j hj => (hOwn0.lt _ hj).1)
            have hz4 : W2.heap.size + 1 ≤ w4.heap.size := by have := hgrow4.size; simp at this; omega
            have hown4A := hown4.alloc (.cells #[.int .i64 x] 3)
            have HO : Hid (∀ i u, [Value.int .i64 x][i]? = some u → (w4.alloc (.cells #[.int .i64 x] 3)).cell? ((⟨w4.heap.size, 0, none⟩ : Addr).add i) = some u) := cell_one_new' w4 _ 3
            have hbA4 : Below W2.heap.size W2 (w4.alloc (.cells #[.int .i64 x] 3)) := hb4.alloc (by omega) _
            clear hnil4 hgrow4
            go_wp2_with (at_builtin; refine wpList_append_own _ rfl _ _ 28 rfl W2.heap.size 3 i0 (.int .i64 0) 1 8 Try.underlying28 hi hz0 hz1 hz2 rfl (by decide) _ _ _ rfl hown4A ⟨w4.heap.size, 0, none⟩ 1 1 [.int .i64 x] rfl rfl HO.out (fun y hy => by simp at hy; subst hy; rfl) h63b hbyb (by simp <;> omega) ?_; intro v5 w5 hown5 hgrow5 hnil5; refine Hid.out ?_)
            refine Lib.hid ?_
            have hb5 : Below W2.heap.size W2 w5 := Below.grown hbA4 hgrow5 (by simp <;> omega) (fun j hj => (hown4A.lt _ hj).1)
            have hz5 : W2.heap.size + 1 ≤ w5.heap.size := by have := hgrow5.size; simp at this; omega
            clear hnil5 hgrow5
            have HN3 : Hid (∀ (ad : Addr) i u, (icells (cs.drop a))[i]? = some u → w5.cell? (ad.add i) = some u) := Lib.hid (fun ad i u hu => by rw [HDr.out.1] at hu; simp [icells] at hu)
            rcases Nat.eq_or_lt_of_le hac with rfl | hcc
            · have HE : Hid (icells (cs.drop a) = [] ∧ cs.length - a = 0) := Lib.hid ⟨by rw [HDr.out.1]; rfl, HDr.out.2⟩
              go_wp2_with (at_builtin; refine wpList_append_own _ rfl _ _ 28 rfl W2.heap.size 3 i0 (.int .i64 0) 1 8 Try.underlying28 hi hz0 hz1 hz2 rfl (by decide) _ _ _ rfl hown5 ⟨g, 0, none⟩ 0 0 [] rfl rfl (by simp) (by simp) h63b hbyb (by omega) ?_; intro v6 w6 hown6 hgrow6 hnil6; refine Hid.out ?_)
              refine Lib.hid ?_
              have hown6' : w6.ownsRow W2.heap.size 3 1 v6 (0 + a + 1 + (cs.length - a)) ([] ++ icells (cs.take a) ++ [.int .i64 x] ++ icells (cs.drop a)) := by rw [HE.out.1, HE.out.2]; exact hown6
              have hb6 : Below W2.heap.size W2 w6 := Below.grown hb5 hgrow6 (by omega) (fun j hj => (hown5.lt _ hj).1)
              obtain ⟨g6, cap6, rfl, hown7⟩ := own_ins hown6' HI2.out hal
              clear hown6 hown6' hgrow6 hnil6
              go_wp2
              refine ⟨⟨k + 1, g6, cap6, by omega, by go_num, ?_, ?_, ?_⟩, ?_⟩
              · rw [HS.out]
              · rw [HS.out]; exact Joins.ownsRow_le hown7 (by have := hB.size; omega)
              · exact hB.trans (hb6.mono hB.size)
              · simp [intOf]; omega
            · skip
              go_wp2_with (at_builtin; refine wpList_append_own _ rfl _ _ 28 rfl W2.heap.size 3 i0 (.int .i64 0) 1 8 Try.underlying28 hi hz0 hz1 hz2 rfl (by decide) _ _ _ rfl hown5 ⟨g, a, none⟩ (cs.length - a) _ (icells (cs.drop a)) rfl HT3.out (HN3.out _) (icells_one _) h63c hbyc (by omega) ?_; intro v6 w6 hown6 hgrow6 hnil6; refine Hid.out ?_)
              refine Lib.hid ?_
              have hown6' := hown6
              have hb6 : Below W2.heap.size W2 w6 := Below.grown hb5 hgrow6 (by omega) (fun j hj => (hown5.lt _ hj).1)
              obtain ⟨g6, cap6, rfl, hown7⟩ := own_ins hown6' HI2.out hal
              clear hown6 hown6' hgrow6 hnil6
              go_wp2
              refine ⟨⟨k + 1, g6, cap6, by omega, by go_num, ?_, ?_, ?_⟩, ?_⟩
              · rw [HS.out]
              · rw [HS.out]; exact Joins.ownsRow_le hown7 (by have := hB.size; omega)
              · exact hB.trans (hb6.mono hB.size)
              · simp [intOf]; omega
    · have hk' : l.take k = l := List.take_of_length_le (by omega)
      rw [hk'] at hown ⊢
      have hkk : ¬ (k : Int) < (l.length : Int) := by omega
      go_wp2
      go_ret
      exact ⟨g, cap, rfl, hown, hB⟩
end Go.Proofs.Ytonhdkldacghoaa
