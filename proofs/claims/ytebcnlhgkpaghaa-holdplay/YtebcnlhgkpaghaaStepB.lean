/- A step of the law: both are stepped, one behind the other. -/
import Derived.Test.YtebcnlhgkpaghaaRefL
import Derived.Test.YtebcnlhgkpaghaaOps5
import Derived.Test.YtebcnlhgkpaghaaRefMfo
import Derived.Test.YtebcnlhgkpaghaaRefMfi
import Derived.Test.YtebcnlhgkpaghaaRefMfr
import Derived.Test.YtebcnlhgkpaghaaRefD
import Derived.Test.YtebcnlhgkpaghaaCopyG
import Derived.Test.YtebcnlhgkpaghaaSameX
import Derived.Orders
import Derived.StillTail
/- What Info of the reference answers. -/
namespace Go.Proofs.Ytebcnlhgkpaghaa
open Go.RowKit Go.Sort
section
variable {w : World} {rb g cap : Nat} {cs : Array Value} {root : Int} {L : List Th} {F : Nat → Prop} {S : Abs} {K : List Int} {rt : Int}
theorem rInfo_none (h : RS w rb g cap cs root L F) (hr : RelD S L []) (x : Int) (hS : S x = none) :
    Calls Try.prog 29 #[.pointer (some ⟨rb, 0, none⟩), .int .i64 x] w fun e w' => e = .returned (.tuple #[.agg #[.int .i64 0, .int .i64 0, .int .i64 0, .int .i64 0, .int .i64 0, .int .i64 0, .slice none 0 0], .bool false]) ∧ Below w.heap.size w w' := by
  obtain ⟨W0, hW0⟩ : ∃ W0, w.alloc (.cells #[.int .i64 0, .int .i64 0, .int .i64 0, .int .i64 0, .int .i64 0, .int .i64 0, .slice none 0 0] 50) = W0 := ⟨_, rfl⟩
  have hb0 : Below w.heap.size w W0 := by rw [← hW0]; exact (Below.refl _ _).alloc (Nat.le_refl _) _
  have HA := Lib.hid (rAt_any (h.below hb0) x)
  rw [atL_no 0 (hr.nopos hS)] at HA
  have hB : W0.heap[w.heap.size]? = some (.cells #[.int .i64 0, .int .i64 0, .int .i64 0, .int .i64 0, .int .i64 0, .int .i64 0, .slice none 0 0] 50 (0, 0)) := by rw [← hW0]; exact heap_new _ _
  have HB := Lib.hid hB
  have HB0 := Lib.hid hb0
  have hz0 : w.heap.size < W0.heap.size := heap_lt hB
  have f0 : W0.frozen? ⟨w.heap.size, 0, none⟩ = false := by simp [World.frozen?, hB]
  have d0 : W0.cell? ⟨w.heap.size, 0, none⟩ = some (.int .i64 0) := by simp [World.cell?, hB]
  have d1 : W0.cell? ⟨w.heap.size, 1, none⟩ = some (.int .i64 0) := by simp [World.cell?, hB]
  have d2 : W0.cell? ⟨w.heap.size, 2, none⟩ = some (.int .i64 0) := by simp [World.cell?, hB]
  have d3 : W0.cell? ⟨w.heap.size, 3, none⟩ = some (.int .i64 0) := by simp [World.cell?, hB]
  have d4 : W0.cell? ⟨w.heap.size, 4, none⟩ = some (.int .i64 0) := by simp [World.cell?, hB]
  have d5 : W0.cell? ⟨w.heap.size, 5, none⟩ = some (.int .i64 0) := by simp [World.cell?, hB]
  have d6 : W0.cell? ⟨w.heap.size, 6, none⟩ = some (.slice none 0 0) := by simp [World.cell?, hB]
  have g1 : W0.frozen? ⟨w.heap.size, 1, none⟩ = false := by simp [World.frozen?, hB]
  have g2 : W0.frozen? ⟨w.heap.size, 2, none⟩ = false := by simp [World.frozen?, hB]
  have g3 : W0.frozen? ⟨w.heap.size, 3, none⟩ = false := by simp [World.frozen?, hB]
  have g4 : W0.frozen? ⟨w.heap.size, 4, none⟩ = false := by simp [World.frozen?, hB]
  have g5 : W0.frozen? ⟨w.heap.size, 5, none⟩ = false := by simp [World.frozen?, hB]
  have g6 : W0.frozen? ⟨w.heap.size, 6, none⟩ = false := by simp [World.frozen?, hB]
  clear h hr hB hb0
  go_enter Try.func29, Try.ntmps29
  go_wp2_with (go_at_call 51; with_reducible refine Calls.mono HA.out ?_; rintro e w' ⟨rfl, hw'⟩; rw [hw']; clear hw' w')
  refine bodyPost_ret (by simp [results, Try.results29, go_sem, d0, d1, d2, d3, d4, d5, d6]) rfl ⟨rfl, ?_⟩
  exact (((((((HB0.out.setCell (p := ⟨w.heap.size, 0, none⟩) (Nat.le_refl _) _).setCell (p := ⟨w.heap.size, 1, none⟩) (Nat.le_refl _) _).setCell (p := ⟨w.heap.size, 2, none⟩) (Nat.le_refl _) _).setCell (p := ⟨w.heap.size, 3, none⟩) (Nat.le_refl _) _).setCell (p := ⟨w.heap.size, 4, none⟩) (Nat.le_refl _) _).setCell (p := ⟨w.heap.size, 5, none⟩) (Nat.le_refl _) _).setCell (p := ⟨w.heap.size, 6, none⟩) (Nat.le_refl _) _)
set_option maxRecDepth 100000 in
set_option maxHeartbeats 4000000 in
theorem rInfo_some (h : RS w rb g cap cs root L F) (hr : RelD S L []) (hi : Inv root S K) (x : Int) {o : Ob} (hS : S x = some o) :
    Calls Try.prog 29 #[.pointer (some ⟨rb, 0, none⟩), .int .i64 x] w fun e w' => ∃ p c, e = .returned (.tuple #[.agg #[.int .i64 o.id, .int .i64 o.kind, .int .i64 o.quota, .int .i64 o.used, .int .i64 o.links, .int .i64 o.df, .slice p o.cats.length c], .bool true]) ∧ CatsAt w' p o.cats ∧ Below w.heap.size w w' := by
  obtain ⟨W0, hW0⟩ : ∃ W0, w.alloc (.cells #[.int .i64 0, .int .i64 0, .int .i64 0, .int .i64 0, .int .i64 0, .int .i64 0, .slice none 0 0] 50) = W0 := ⟨_, rfl⟩
  have hb0 : Below w.heap.size w W0 := by rw [← hW0]; exact (Below.refl _ _).alloc (Nat.le_refl _) _
  have hz0 : W0.heap.size = w.heap.size + 1 := by rw [← hW0]; simp
  obtain ⟨k, hk, e, m⟩ := hr.pos hS
  have HA := Lib.hid (rAt_any (h.below hb0) x)
  rw [atL_yes 0 hk h.nd e, Nat.zero_add] at HA
  have h' := h.below hb0
  obtain ⟨h0, h1⟩ := h'.hd
  obtain ⟨c0, c1, c2, c3, c4, c5⟩ := h'.six hk
  have hLn := h.lim.1
  have hki : (k : Int) < (L.length : Int) := by omega
  have hk0 : ¬ (k : Int) < 0 := by omega
  rw [e] at c0
  rw [← m.1] at c1
  rw [← m.2.1] at c2
  rw [← m.2.2.1] at c3
  rw [← m.2.2.2.1] at c4
  have hid := (hi.ok _ _ hS).id
  have hgo := hi.ok _ _ hS
  have hne : ∀ t ∈ L, t.ents.Nodup := fun t ht => by
    obtain ⟨o', ho', hm'⟩ := hr.yes t ht (by simp)
    rw [← hm'.2.2.2.2]; exact (hi.ok _ _ ho').nd
  have hlk := lk_top hr h.nd hne hi.bal hS
  have hC := (h.cat _ (List.getElem_mem hk)).1
  rw [← m.2.2.2.1] at hC
  generalize hcp : L[k].cp = cp at c4 hC
  generalize hcc : L[k].cc = cc at c4
  generalize hlp : L[k].lp = lp at c5
  generalize hlc : L[k].lc = lc at c5
  generalize hle : L[k].ents = le at c5
  obtain ⟨W1, hW1⟩ : ∃ W1, W0.alloc (.cells #[.int .i64 x, .int .i64 o.kind, .int .i64 o.quota, .int .i64 o.df, .slice cp o.cats.length cc, .slice lp le.length lc] 60) = W1 := ⟨_, rfl⟩
  have hb1 : Below w.heap.size w W1 := by rw [← hW1]; exact hb0.alloc hb0.size _
  have hT : W1.heap[w.heap.size + 1]? = some (.cells #[.int .i64 x, .int .i64 o.kind, .int .i64 o.quota, .int .i64 o.df, .slice cp o.cats.length cc, .slice lp le.length lc] 60 (0, 0)) := by rw [← hW1, ← hz0]; exact heap_new _ _
  have hz1 : W1.heap.size = w.heap.size + 2 := by rw [← hW1]; simp [hz0]
  have hI : W1.heap[w.heap.size]? = some (.cells #[.int .i64 0, .int .i64 0, .int .i64 0, .int .i64 0, .int .i64 0, .int .i64 0, .slice none 0 0] 50 (0, 0)) := by
    rw [← hW1]
    refine (Below.heap_alloc W0 _ _ (by omega)).trans ?_
    rw [← hW0]; exact heap_new _ _
  have q1 : ∀ n' os, (gx W1 n' os).cell? ⟨w.heap.size + 1, 1, none⟩ = some (.int .i64 o.kind) := cell_gx (by show w.heap.size + 1 < _; omega) (by simp [World.cell?, hT])
  have q2 : ∀ n' os, (gx W1 n' os).cell? ⟨w.heap.size + 1, 2, none⟩ = some (.int .i64 o.quota) := cell_gx (by show w.heap.size + 1 < _; omega) (by simp [World.cell?, hT])
  have q3 : ∀ n' os, (gx W1 n' os).cell? ⟨w.heap.size + 1, 3, none⟩ = some (.int .i64 o.df) := cell_gx (by show w.heap.size + 1 < _; omega) (by simp [World.cell?, hT])
  have q4 : ∀ n' os, (gx W1 n' os).cell? ⟨w.heap.size + 1, 4, none⟩ = some (.slice cp o.cats.length cc) := cell_gx (by show w.heap.size + 1 < _; omega) (by simp [World.cell?, hT])
  have HU : Hid (∀ n' os, Calls Try.prog 58 #[.pointer (some ⟨rb, 0, none⟩), .int .i64 k] (gx W1 n' os) fun e w' => e = .returned (.int .i64 o.used) ∧ Below (gx W1 n' os).heap.size (gx W1 n' os) w') := fun n' os => rUsed_any (h.below (hb1.trans ((gx_below W1 n' os).mono hb1.size))) hr hi k hk (by rw [e]; exact hS)
  have HL : Hid (∀ n' os, Calls Try.prog 55 #[.pointer (some ⟨rb, 0, none⟩), .int .i64 x] (gx W1 n' os) fun e w' => e = .returned (.int .i64 o.links) ∧ Below (gx W1 n' os).heap.size (gx W1 n' os) w') := fun n' os => (rLinks_any (h.below (hb1.trans ((gx_below W1 n' os).mono hb1.size))) x).mono fun e w' ⟨a, b⟩ => ⟨by rw [a, hlk], by rw [b]; exact Below.refl _ _⟩
  have HI := Lib.hid hI
  have HB1 := Lib.hid hb1
  have HC := Lib.hid hC
  have hidx := Lib.hid hid
  clear h hr hi h' hS m e hlk hne hgo hC hI hb1 hb0 hid hcp hcc hlp hlc hle hT
  go_enter Try.func29, Try.ntmps29
  go_upto_region 5 with (go_at_call 51; with_reducible refine Calls.mono HA.out ?_; rintro e w' ⟨rfl, hw'⟩; rw [hw']; clear hw' w')
  try simp only [hz0]
  try rw [hW1]
  refine wp_region_tail_gx 14 (by kernel_rfl) (by kernel_rfl) ?_
  simp only [List.take_succ_cons, List.take_zero, List.drop_succ_cons, List.drop_zero]
  repeat (first | go_big_quiet_step (first
    | (go_at_call 58; with_reducible exact calls_gx (HU.out _ _))
    | (go_at_call 55; with_reducible exact calls_gx (HL.out _ _))) | (refine wpQuiet_step (fun K hK => ?_); go_simp; split <;> first | (exfalso; omega) | (refine hK _ ?_; clear hK K)))
  refine wpQuiet_nil ?_
  intro _ hw'
  obtain ⟨⟨nq, osq⟩, hw''⟩ := hw'
  subst hw''
  have hBg := HB1.out.trans ((gx_below W1 nq osq).mono HB1.out.size)
  have hG : (gx W1 nq osq).heap[w.heap.size]? = some (.cells #[.int .i64 0, .int .i64 0, .int .i64 0, .int .i64 0, .int .i64 0, .int .i64 0, .slice none 0 0] 50 (0, 0)) := ((gx_below W1 nq osq).block _ (by omega)).trans HI.out
  have HBG := Lib.hid hBg
  generalize gx W1 nq osq = w2 at hG HBG ⊢
  have s0 : w2.cell? ⟨w.heap.size, 0, none⟩ = some (.int .i64 0) := by simp [World.cell?, hG]
  have s1 : w2.cell? ⟨w.heap.size, 1, none⟩ = some (.int .i64 0) := by simp [World.cell?, hG]
  have s2 : w2.cell? ⟨w.heap.size, 2, none⟩ = some (.int .i64 0) := by simp [World.cell?, hG]
  have s3 : w2.cell? ⟨w.heap.size, 3, none⟩ = some (.int .i64 0) := by simp [World.cell?, hG]
  have s4 : w2.cell? ⟨w.heap.size, 4, none⟩ = some (.int .i64 0) := by simp [World.cell?, hG]
  have s5 : w2.cell? ⟨w.heap.size, 5, none⟩ = some (.int .i64 0) := by simp [World.cell?, hG]
  have s6 : w2.cell? ⟨w.heap.size, 6, none⟩ = some (.slice none 0 0) := by simp [World.cell?, hG]
  have sf : ∀ o, w2.frozen? ⟨w.heap.size, o, none⟩ = false := fun o => by simp [World.frozen?, hG]
  clear hG q1 q2 q3 q4 hBg
  go_wp2_with fail
  refine bodyPost_ret (by simp [results, Try.results29, go_sem, s0, s1, s2, s3, s4, s5, s6]; rfl) rfl ⟨cp, cc, by rw [hidx.out], (fun hb => ⟨HC.out.below hb, hb⟩) ?_⟩
  exact (((((((HBG.out.setCell (p := ⟨w.heap.size, 0, none⟩) (Nat.le_refl _) _).setCell (p := ⟨w.heap.size, 1, none⟩) (Nat.le_refl _) _).setCell (p := ⟨w.heap.size, 2, none⟩) (Nat.le_refl _) _).setCell (p := ⟨w.heap.size, 3, none⟩) (Nat.le_refl _) _).setCell (p := ⟨w.heap.size, 4, none⟩) (Nat.le_refl _) _).setCell (p := ⟨w.heap.size, 5, none⟩) (Nat.le_refl _) _).setCell (p := ⟨w.heap.size, 6, none⟩) (Nat.le_refl _) _)
end
end Go.Proofs.Ytebcnlhgkpaghaa
/- Both tables, newly made; Make of the reference, whatever is asked; hold's questions. -/
namespace Go.Proofs.Ytebcnlhgkpaghaa
open Go.RowKit Go.Sort
section
variable {w : World} {rb g cap : Nat} {cs : Array Value} {root : Int} {L : List Th} {F : Nat → Prop} {S : Abs} {K : List Int} {rt : Int} {base tb mb : Nat}
theorem rMake_any (h : RS w rb g cap cs root L F) (hr : RelD S L []) (hi : Inv rt S K) (i id kind quota d : Int) (p : Option Addr) (cc : Nat) (xs : List (Int × Int)) (hm : xs.length ≤ maxLen) (hc : CatsAt w p xs) (ho : Off (fun b => b = rb ∨ b = g ∨ F b) p xs.length) :
    Calls Try.prog 19 #[.pointer (some ⟨rb, 0, none⟩), .int .i64 i, .int .i64 id, .int .i64 kind, .int .i64 quota, .agg #[.int .i64 d, .slice p xs.length cc]] w fun e w' => e = .returned (.int .i64 (makeS S L.length i id kind quota d xs)) ∧ RStep w w' rb g root F (makeT S L.length i id kind quota d xs) := by
  by_cases hz : makeS S L.length i id kind quota d xs = 0
  · have hm : xs.length < 1000000 := by
      by_cases hf : fitsS d (low kind) xs = true
      · unfold fitsS at hf; simp at hf; omega
      · exfalso
        have hf' : fitsS d (low kind) xs = false := by simpa using hf
        unfold makeS at hz
        split at hz
        · exact absurd hz (by assumption)
        · split at hz
          · exact absurd hz (by decide)
          · rw [if_pos (.inr (.inr hf'))] at hz; exact absurd hz (by decide)
    rw [hz]
    by_cases k4 : kind = 4
    · exact rMake_four h hr hi i id kind quota d p cc xs hm hc ho k4 hz
    · by_cases k5 : kind = 5
      · exact rMake_five h hr hi i id kind quota d p cc xs hm hc ho k5 hz
      · exact rMake_free h hr hi i id kind quota d p cc xs hm hc ho ⟨k4, k5⟩ hz
  · rw [makeT_no hz]
    exact rMake_no h hr hi i id kind quota d p cc xs hm hc hz
theorem new_x (root d : Int) (p : Option Addr) (cc : Nat) (xs : List (Int × Int)) (w : World) (hm : xs.length < 1000000) (hc : CatsAt w p xs) (hi : isCt root = true) (hf : fitsS d 1 xs = true) :
    Calls Try.prog 5 #[.int .i64 root, .agg #[.int .i64 d, .slice p xs.length cc]] w fun e w' => ∃ tb mb F, e = .returned (.pointer (some ⟨tb, 0, none⟩)) ∧ HX root w' w.heap.size tb mb F (updS (fun _ => none) root (root0 root d xs)) ∧ Below w.heap.size w w' := by
  refine (New_any root d p cc xs w (by omega) hc hi hf).mono ?_
  rintro e w' ⟨tb, mb, D, r, rfl, h1, h2, h3, h4⟩
  obtain ⟨S, hS⟩ : ∃ S : Abs, S = updS (fun _ => none) root (root0 root d xs) := ⟨_, rfl⟩
  have s1 : S root = some (root0 root d xs) := by rw [hS, updS_at]
  have s2 : ∀ k, k ≠ root → S k = none := fun k hk => by rw [hS, updS_ne _ _ hk]
  rw [← hS]
  refine ⟨tb, mb, _, rfl, ⟨[root], D, T0 root r, h1, fun k => ?_, rfl, ⟨⟨by simp, fun k => ?_, fun x o hx => ?_, fun x hx => ?_⟩, fun k o hk => ?_, by simp, ⟨fun _ => 0, fun k o x hk hx => ?_⟩⟩⟩, h4⟩
  · unfold T0
    by_cases e : k = root
    · subst e; rw [if_pos rfl, s1, ← h2]; rfl
    · rw [if_neg e, s2 k e]; rfl
  · by_cases e : k = root
    · subst e; rw [s1]; simp
    · rw [s2 k e]; simp [e]
  · by_cases e : x = root
    · subst e; rw [s1] at hx; cases hx; simp [cnt, occ, s1, root0]
    · rw [s2 x e] at hx; cases hx
  · by_cases e : x = root
    · subst e; rw [s1] at hx; cases hx
    · exact ⟨by simp [cnt, occ, s1, root0], e⟩
  · by_cases e : k = root
    · subst e
      rw [s1] at hk; cases hk
      exact ⟨rfl, hi, (show (1 : Int) ≤ 1 ∧ (1 : Int) ≤ 6 from ⟨by decide, by decide⟩), (show (1 : Int) ≤ 1099511627776 ∧ (1099511627776 : Int) ≤ 1099511627776 from ⟨by decide, by decide⟩), List.nodup_nil, rfl, (show (0 : Int) ≤ 1099511627776 from by decide), fun h => absurd rfl h, fun _ _ => rfl, (show (1 : Int) ≤ 1 from by decide), (fun hm => by cases hm), hm⟩
    · rw [s2 k e] at hk; cases hk
  · by_cases e : k = root
    · subst e; rw [s1] at hk; cases hk; cases hx
    · rw [s2 k e] at hk; cases hk
set_option maxRecDepth 100000 in
set_option maxHeartbeats 2000000 in
theorem rNew_no (root d : Int) (p : Option Addr) (cc : Nat) (xs : List (Int × Int)) (w : World) (hm : xs.length ≤ maxLen) (hc : CatsAt w p xs) (hno : (isCt root && fitsS d 1 xs) = false) :
    Calls Try.prog 6 #[.int .i64 root, .agg #[.int .i64 d, .slice p xs.length cc]] w fun e w' => e = .returned (.pointer none) ∧ Below w.heap.size w w' := by
  obtain ⟨W0, hW0⟩ : ∃ W0, w.alloc (.cells #[.int .i64 d, .slice p xs.length cc] 24) = W0 := ⟨_, rfl⟩
  have hb0 : Below w.heap.size w W0 := by rw [← hW0]; exact (Below.refl _ _).alloc (Nat.le_refl _) _
  have a0 : W0.cell? ⟨w.heap.size, 0, none⟩ = some (.int .i64 d) := by rw [← hW0]; simp [go_sem]
  have a1 : W0.cell? ⟨w.heap.size, 1, none⟩ = some (.slice p xs.length cc) := by rw [← hW0]; simp [go_sem]
  have HC := Lib.hid (Cat_any root)
  have HF := Lib.hid (refFree_any d p cc xs W0 hm (hc.below hb0))
  have HB0 := Lib.hid hb0
  rw [fits_free] at hno
  cases hr : isCt root with
  | false =>
    rw [hr] at HC
    clear hc hb0
    go_enter Try.func6, Try.ntmps6
    go_wp2_with (go_at_call 17; with_reducible refine Calls.mono (HC.out _) ?_; rintro e w' ⟨rfl, hw'⟩; rw [hw']; clear hw' w')
    go_ret
    exact ⟨rfl, HB0.out⟩
  | true =>
    have hfr : freeS d xs = false := by rw [hr] at hno; simpa using hno
    rw [hr] at HC
    rw [hfr] at HF
    clear hc hb0
    go_enter Try.func6, Try.ntmps6
    go_wp2_with (first | (go_at_call 17; with_reducible refine Calls.mono (HC.out _) ?_; rintro e w' ⟨rfl, hw'⟩; rw [hw']; clear hw' w') | (go_at_call 18; with_reducible refine Calls.mono HF.out ?_; rintro e w2 ⟨rfl, hb2⟩; have HB2 := Lib.hid hb2; clear hb2))
    go_ret
    exact ⟨rfl, HB0.out.trans (HB2.out.mono HB0.out.size)⟩
set_option maxRecDepth 100000 in
set_option maxHeartbeats 2000000 in
theorem rNew_yes (root d : Int) (p : Option Addr) (cc : Nat) (xs : List (Int × Int)) (w : World) (hm : xs.length < 1000000) (hc : CatsAt w p xs) (hi : isCt root = true) (hf : fitsS d 1 xs = true) :
    Calls Try.prog 6 #[.int .i64 root, .agg #[.int .i64 d, .slice p xs.length cc]] w fun e w' => ∃ rb g, e = .returned (.pointer (some ⟨rb, 0, none⟩)) ∧ w.heap.size ≤ rb ∧ w.heap.size ≤ g ∧ rb ≠ g ∧ w'.heap[rb]? = some (.cells #[.int .i64 root, .slice (some ⟨g, 0, none⟩) 1 1] 63 (0, 0)) ∧ w'.heap[g]? = some (.cells (thC ⟨root, 1, 1099511627776, d, p, cc, xs, none, 0, []⟩).toArray 60 (0, 0)) ∧ Below w.heap.size w w' := by
  obtain ⟨W0, hW0⟩ : ∃ W0, w.alloc (.cells #[.int .i64 d, .slice p xs.length cc] 24) = W0 := ⟨_, rfl⟩
  have hb0 : Below w.heap.size w W0 := by rw [← hW0]; exact (Below.refl _ _).alloc (Nat.le_refl _) _
  have a0 : W0.cell? ⟨w.heap.size, 0, none⟩ = some (.int .i64 d) := by rw [← hW0]; simp [go_sem]
  have a1 : W0.cell? ⟨w.heap.size, 1, none⟩ = some (.slice p xs.length cc) := by rw [← hW0]; simp [go_sem]
  have hz0 : w.heap.size < W0.heap.size := by rw [← hW0]; simp
  have HC := Lib.hid (Cat_any root)
  have HF := Lib.hid (refFree_any d p cc xs W0 (by unfold maxLen; omega) (hc.below hb0))
  have HB0 := Lib.hid hb0
  rw [hi] at HC
  rw [fits_free] at hf
  rw [hf] at HF
  clear hc hb0
  go_enter Try.func6, Try.ntmps6
  go_wp2_with (first | (go_at_call 17; with_reducible refine Calls.mono (HC.out _) ?_; rintro e w' ⟨rfl, hw'⟩; rw [hw']; clear hw' w') | (go_at_call 18; with_reducible refine Calls.mono HF.out ?_; rintro e w2 ⟨rfl, hb2⟩; refine Hid.out ?_))
  refine Lib.hid ?_
  have y0 := (hb2.cell (p := ⟨w.heap.size, 0, none⟩) hz0).trans a0
  have y1 := (hb2.cell (p := ⟨w.heap.size, 1, none⟩) hz0).trans a1
  have HB2 : Hid (Below w.heap.size w w2) := HB0.out.trans (hb2.mono HB0.out.size)
  clear hb2
  go_wp2_with fail
  go_ret
  have hz := HB2.out.size
  refine ⟨w2.heap.size + 1, w2.heap.size, rfl, by omega, by omega, by omega, ?_, ?_, ?_⟩
  · have := heap_new (w2.alloc (.cells #[.int .i64 root, .int .i64 1, .int .i64 1099511627776, .int .i64 d, .slice p xs.length cc, .slice none 0 0] 60)) (.cells #[.int .i64 root, .slice (some ⟨w2.heap.size, 0, none⟩) 1 1] 63 (0, 0))
    rw [World.size_alloc] at this
    exact this
  · refine (Below.heap_alloc _ _ _ (by simp)).trans ?_
    exact heap_new _ _
  · exact (HB2.out.alloc hz _).alloc (by simp; omega) _
/-- Both, newly made. -/
theorem start_rs {W : World} {root d : Int} {p : Option Addr} {cc : Nat} {xs : List (Int × Int)} {rb g b0 : Nat} {F : Nat → Prop} (h1 : W.heap[rb]? = some (.cells #[.int .i64 root, .slice (some ⟨g, 0, none⟩) 1 1] 63 (0, 0))) (h2 : W.heap[g]? = some (.cells (thC ⟨root, 1, 1099511627776, d, p, cc, xs, none, 0, []⟩).toArray 60 (0, 0))) (hc : CatsAt W p xs) (hp : 0 < xs.length → ∀ a, p = some a → a.block < b0) (hrb : b0 ≤ rb) (hg : b0 ≤ g) (hF : ∀ k, F k → b0 ≤ k ∧ k < W.heap.size ∧ k ≠ rb ∧ k ≠ g) (hm : xs.length < 1000000) :
    RS W rb g 1 (thC ⟨root, 1, 1099511627776, d, p, cc, xs, none, 0, []⟩).toArray root [⟨root, 1, 1099511627776, d, p, cc, xs, none, 0, []⟩] F ∧ RelD (updS (fun _ => none) root (root0 root d xs)) [⟨root, 1, 1099511627776, d, p, cc, xs, none, 0, []⟩] [] := by
  refine ⟨⟨h1, h2, rfl, by simp, fun j u hu => ?_, fun t ht => ?_, fun t ht => ?_, fun e => (hF _ e).2.2.1 rfl, fun e => (hF _ e).2.2.2 rfl, by simp, ⟨by simp, fun t ht => ?_⟩, by decide, fun k hk => (hF k hk).2.1⟩, ⟨fun t ht _ => ?_, fun t ht hD => ?_, fun k o ho => ?_⟩⟩
  · rw [thsC_one] at hu; simpa using hu
  · simp at ht; subst ht; exact ⟨hc, fun j hj => by simp at hj⟩
  · simp at ht; subst ht
    refine ⟨fun hn a ha hb => ?_, fun hn => by simp at hn⟩
    have := hp hn a ha
    rcases hb with e | e | e
    · omega
    · omega
    · have := (hF _ e).1; omega
  · simp at ht; subst ht; exact ⟨hm, by simp⟩
  · simp at ht; subst ht; exact ⟨root0 root d xs, updS_at _ _ _, rfl, rfl, rfl, rfl, rfl⟩
  · cases hD
  · by_cases e : k = root
    · exact ⟨_, List.mem_singleton.2 rfl, e.symm⟩
    · rw [updS_ne _ _ e] at ho; cases ho
theorem has_x (h : HX rt w base tb mb F S) (i x : Int) (hi : i64 i) (hx : i64 x) :
    Calls Try.prog 31 #[.pointer (some ⟨tb, 0, none⟩), .int .i64 i, .int .i64 x] w fun e w' => e = .returned (.bool (hasB S i x)) ∧ w' = w := by
  obtain ⟨K, D, T, h1, h2, _, h4⟩ := h
  have hlen := h4.len
  refine (Has_any h1 i x hi hx (fun r hr => ?_)).mono ?_
  · have := h4.elen (k := i) (o := r.ob) (by rw [← h2 i, hr]; rfl)
    omega
  · rintro e w' ⟨rfl, rfl⟩
    refine ⟨?_, rfl⟩
    congr 2
    rw [entE_S h2]
    unfold entC hasB
    cases S i with
    | none => rfl
    | some o =>
      simp only
      by_cases hk : o.kind = 1 <;> by_cases hb : inB o.ents x = true <;> simp [hk, hb]
theorem len_x (h : HX rt w base tb mb F S) (n : Nat) (hn : ∀ K, Inv rt S K → K.length = n) :
    Calls Try.prog 13 #[.pointer (some ⟨tb, 0, none⟩)] w fun e w' => e = .returned (.int .i64 n) ∧ w' = w := by
  obtain ⟨K, D, T, h1, h2, _, h4⟩ := h
  have hz := size_len h1 h2 h4
  refine (Len_any h1).mono ?_
  rintro e w' ⟨rfl, rfl⟩
  exact ⟨by rw [hz, hn K h4], rfl⟩
theorem info_x (h : HX rt w base tb mb F S) (x : Int) (o : Ob) (ho : S x = some o) :
    Calls Try.prog 28 #[.pointer (some ⟨tb, 0, none⟩), .int .i64 x] w fun e w' => ∃ p cap, e = .returned (.tuple #[.agg #[.int .i64 o.id, .int .i64 o.kind, .int .i64 o.quota, .int .i64 o.used, .int .i64 o.links, .int .i64 o.df, .slice p o.cats.length cap], .bool true]) ∧ CatsAt w' p o.cats ∧ Below w.heap.size w w' := by
  obtain ⟨K, D, T, h1, h2, _, h4⟩ := h
  obtain ⟨r, hr, rfl⟩ := h2.some ho
  have g := h4.ok x r.ob ho
  have := g.cat
  refine (Info_any h1 x (ct_i64 g.ct) r hr (by omega)).mono ?_
  rintro e w' ⟨u, rfl, ⟨sa, ca, rfl, hra⟩, hc⟩
  refine ⟨sa, ca, rfl, ?_, hc⟩
  obtain ⟨p', cap', e, h⟩ := cats_row hra
  cases e
  exact h
theorem list_x (h : HX rt w base tb mb F S) (i : Int) (hi : i64 i) :
    Calls Try.prog 35 #[.pointer (some ⟨tb, 0, none⟩), .int .i64 i] w fun e w' => ∃ p c, e = .returned (.tuple #[.slice p (listS S i).length c, .int .i64 (contS S i)]) ∧ IntsAt w' p (listS S i) ∧ Below w.heap.size w w' := by
  obtain ⟨K, D, T, h1, h2, _, h4⟩ := h
  have hlen := h4.len
  rcases contE_cases T i with ⟨r, hr, hk, _⟩ | hne
  · have hSi : S i = some r.ob := by rw [← h2 i, hr]; rfl
    have hel := h4.elen hSi
    have e1 : listS S i = r.ob.ents := by unfold listS; rw [hSi]; exact if_pos hk
    have e2 : contS S i = 0 := by unfold contS; rw [hSi]; exact if_pos hk
    refine (List_ok h1 i hi r hr hk (by omega)).mono ?_
    rintro e w' ⟨v', rfl, hrow, hb⟩
    obtain ⟨sp, cp, rfl⟩ := row_form hrow
    rw [e1, e2]
    exact ⟨sp, cp, rfl, row_ints hrow, hb⟩
  · have hcs : contS S i ≠ 0 := by rw [← contE_S h2]; exact hne
    have e1 : listS S i = [] := by
      unfold contS at hcs
      unfold listS
      cases hS : S i with
      | none => rfl
      | some o =>
        rw [hS] at hcs
        by_cases hk : o.kind = 1
        · simp [hk] at hcs
        · simp [hk]
    refine (List_no h1 i hi hne).mono ?_
    rintro e w' ⟨rfl, hw⟩
    rw [e1, ← contE_S h2]
    exact ⟨none, 0, rfl, (fun j hj => by simp at hj), by first | (rw [hw]; exact Below.refl _ _) | exact hw⟩
end
end Go.Proofs.Ytebcnlhgkpaghaa
/- What Ids of the reference answers. -/
namespace Go.Proofs.Ytebcnlhgkpaghaa
open Go.RowKit Go.Sort
theorem ins_sorted {l : List Int} {x : Int} {m : Nat} (hs : l.Pairwise (· < ·)) (hm : m ≤ l.length) (h1 : ∀ j (hj : j < l.length), j < m → l[j] < x) (h2 : ∀ (hj : m < l.length), x < l[m]) : (l.take m ++ [x] ++ l.drop m).Pairwise (· < ·) := by
  have htake : ∀ a ∈ l.take m, a < x := fun a ha => by
    obtain ⟨j, hj, rfl⟩ := List.getElem_of_mem ha
    have hj' : j < m := by simp at hj; omega
    rw [List.getElem_take]
    exact h1 j (by omega) hj'
  have hdrop : ∀ b ∈ l.drop m, x < b := fun b hb => by
    obtain ⟨j, hj, rfl⟩ := List.getElem_of_mem hb
    have hml : m < l.length := by simp at hj; omega
    rw [List.getElem_drop]
    rcases Nat.eq_zero_or_pos j with e | e
    · subst e; exact h2 hml
    · have := List.pairwise_iff_getElem.1 hs m (m + j) hml (by simp at hj; omega) (by omega)
      have := h2 hml
      omega
  have hall := hs
  rw [← List.take_append_drop m l, List.pairwise_append] at hall
  rw [List.pairwise_append, List.pairwise_append]
  refine ⟨⟨hall.1, by simp, fun a ha b hb => ?_⟩, hall.2.1, fun a ha b hb => ?_⟩
  · simp at hb; subst hb; exact htake a ha
  · rcases List.mem_append.1 ha with ha | ha
    · exact hall.2.2 a ha b hb
    · simp at ha; subst ha; exact hdrop b hb
theorem sorted_eq {a b : List Int} (ha : a.Pairwise (· < ·)) (hb : b.Pairwise (· < ·)) (h : ∀ x, x ∈ a ↔ x ∈ b) : a = b := by
  have na : a.Nodup := ha.imp (fun h e => by omega)
  have nb : b.Nodup := hb.imp (fun h e => by omega)
  have hp : a.Perm b := (List.perm_ext_iff_of_nodup na nb).2 h
  exact hp.eq_of_pairwise (fun x y _ _ h1 h2 => by omega) ha hb
/-- The numbers of a list, rising. -/
def IdsOf (l : List Int) (L : List Th) : Prop := l.Pairwise (· < ·) ∧ ∀ x, x ∈ l ↔ x ∈ L.map (·.id)
section
variable {w : World} {rb g cap : Nat} {cs : Array Value} {root : Int} {L : List Th} {F : Nat → Prop}
/-- A part of a row, to be appended. -/
theorem src_take {X : World} {B ga ca : Nat} {l : List Int} (h : X.ownsRow B 3 1 (.slice (some ⟨ga, 0, none⟩) l.length ca) l.length (ivs l)) (m : Nat) : SrcI X (some ⟨ga, 0, none⟩) (l.take m) := .inr ⟨_, rfl, fun j u hu => by
  have hI := row_ints h
  have hj : j < (l.take m).length := by have := (List.getElem?_eq_some_iff.1 hu).1; simpa [ivs] using this
  obtain ⟨b, off, e, _, hc⟩ := hI.take m j hj
  cases e
  rw [addr_plus]
  unfold ivs at hu
  rw [List.getElem?_map, List.getElem?_eq_getElem hj] at hu
  simp only [Option.map_some, Option.some.injEq] at hu
  rw [← hu]; exact hc⟩
theorem src_drop {X : World} {B ga ca : Nat} {l : List Int} (h : X.ownsRow B 3 1 (.slice (some ⟨ga, 0, none⟩) l.length ca) l.length (ivs l)) (m : Nat) : SrcI X (if ca = m then some ⟨ga, 0, none⟩ else some ⟨ga, m, none⟩) (l.drop m) := by
  have hI := row_ints h
  have hca : l.length ≤ ca := by
    rcases h.2 with ⟨e, _⟩ | ⟨g3, c3, cur, e, _, _, h4, _⟩
    · cases e
    · cases e; exact h4
  by_cases e : ca = m
  · rw [if_pos e, List.drop_of_length_le (by omega)]
    exact .inr ⟨_, rfl, fun j u hu => by simp [ivs] at hu⟩
  · rw [if_neg e]
    refine .inr ⟨_, rfl, fun j u hu => ?_⟩
    have hj : j < (l.drop m).length := by have := (List.getElem?_eq_some_iff.1 hu).1; simpa [ivs] using this
    have hj' : m + j < l.length := by simp at hj; omega
    obtain ⟨b, off, e', _, hc⟩ := hI (m + j) hj'
    cases e'
    rw [addr_plus]
    unfold ivs at hu
    rw [List.getElem?_map, List.getElem?_eq_getElem hj] at hu
    simp only [Option.map_some, Option.some.injEq, List.getElem_drop] at hu
    rw [← hu]
    rw [show 0 + (m + j) = m + j from by omega] at hc
    exact hc
set_option maxRecDepth 100000 in
set_option maxHeartbeats 8000000 in
theorem rIds_any (h : RS w rb g cap cs root L F) : Calls Try.prog 34 #[.pointer (some ⟨rb, 0, none⟩)] w fun e w' => ∃ p c l, e = .returned (.slice p (List.length l) c) ∧ IntsAt w' p l ∧ Below w.heap.size w w' ∧ IdsOf l L := by
  have HH := Lib.hid h
  obtain ⟨W1, hW1⟩ : ∃ W1, w.alloc (.cells #[] 3) = W1 := ⟨_, rfl⟩
  have hb1 : Below w.heap.size w W1 := by rw [← hW1]; exact (Below.refl _ _).alloc (Nat.le_refl _) _
  have hr1 : W1.ownsRow w.heap.size 3 1 (.slice (some ⟨w.heap.size, 0, none⟩) 0 0) 0 (ivs []) := by rw [← hW1]; exact World.ownsRow_lit (base := w.heap.size) (e := 3) (size := 1) w #[] 0 (Nat.le_refl _) (by decide) rfl
  obtain ⟨t0, t1⟩ := (h.below hb1).hd
  have hLn := h.lim.1
  have HND := Lib.hid h.nd
  have HR1 := Lib.hid hr1
  have HB1 := Lib.hid hb1
  clear h hr1 hb1
  go_enter Try.func34, Try.ntmps34
  go_wp2_with fail
  go_loopw [3, 14] (fun r y wr => ∃ (k : Nat) (l : List Int) (ga ca : Nat), y = .int .i64 k ∧ k ≤ L.length ∧ r = .slice (some ⟨ga, 0, none⟩) l.length ca ∧ wr.ownsRow w.heap.size 3 1 r l.length (ivs l) ∧ Below w.heap.size w wr ∧ l.length = k ∧ IdsOf l (L.take k)) (fun _ y _ => (L.length - (RowKit.intOf y).toNat))
  case atStart => exact ⟨0, [], w.heap.size, 0, rfl, Nat.zero_le _, rfl, HR1.out, HB1.out, rfl, List.Pairwise.nil, fun x => by simp⟩
  case round =>
    obtain ⟨k, l, ga, ca, rfl, hk, rfl, hrow, hB, hlen, hids⟩ := hrel
    obtain ⟨wo, rfl⟩ : ∃ wo, wo = wr := ⟨wr, rfl⟩
    have HLen := Lib.hid hlen
    have HIds := Lib.hid hids
    have hll : l.length ≤ 4096 := by omega
    clear hlen hids
    by_cases hlt : k < L.length
    · have hki : (k : Int) < (L.length : Int) := by omega
      obtain ⟨c0, c1, c2, c3, c4, c5⟩ := (HH.out.below hB).six hlt
      obtain ⟨id, hid⟩ : ∃ id, L[k].id = id := ⟨_, rfl⟩
      rw [hid] at c0
      have HId := Lib.hid hid
      generalize L[k].kind = v1 at c1
      generalize L[k].quota = v2 at c2
      generalize L[k].df = v3 at c3
      generalize L[k].cp = v4 at c4
      generalize L[k].cc = v5 at c4
      generalize L[k].cats.length = v6 at c4
      generalize L[k].lp = v7 at c5
      generalize L[k].lc = v8 at c5
      generalize L[k].ents.length = v9 at c5
      obtain ⟨W2, hW2⟩ : ∃ W2, wo.alloc (.cells #[.int .i64 id, .int .i64 v1, .int .i64 v2, .int .i64 v3, .slice v4 v6 v5, .slice v7 v9 v8] 60) = W2 := ⟨_, rfl⟩
      have hb2 : Below wo.heap.size wo W2 := by rw [← hW2]; exact (Below.refl _ _).alloc (Nat.le_refl _) _
      have hz2 : W2.heap.size = wo.heap.size + 1 := by rw [← hW2]; simp
      have d0 : W2.cell? ⟨wo.heap.size, 0, none⟩ = some (.int .i64 id) := by rw [← hW2]; simp [go_sem]
      have hrow2 := row_same (w' := W2) hrow (fun j hj => hb2.block j (hrow.lt j hj).2)
      have hgl := (hrow2.lt ga rfl).2
      have hB2 := hB.trans (hb2.mono hB.size)
      have HD0 := Lib.hid d0
      have HRow := Lib.hid hrow2
      have HB2 := Lib.hid hB2
      have HI2 := Lib.hid (row_ints hrow2)
      have hca : l.length ≤ ca := by
        rcases hrow2.2 with ⟨e, _⟩ | ⟨g3, c3, cur, e, _, _, h4, _⟩
        · cases e
        · cases e; exact h4
      clear hrow hrow2 hB2 hb2 d0 hid
      go_wp2_with fail
      go_loopw [6] (fun y wr2 => ∃ m : Nat, y = .int .i64 m ∧ m ≤ l.length ∧ (∀ j (hj : j < l.length), j < m → l[j] < id) ∧ Below W2.heap.size W2 wr2) (fun y _ => (l.length - (RowKit.intOf y).toNat))
      case atStart => exact ⟨0, rfl, Nat.zero_le _, fun j hj h => absurd h (Nat.not_lt_zero _), Below.refl _ _⟩
      case round =>
        obtain ⟨m, rfl, hm, hbelow, hBm⟩ := hrel
        have HBe := Lib.hid hbelow
        clear hbelow
        obtain ⟨X1, rfl⟩ : ∃ X1, X1 = wr := ⟨wr, rfl⟩
        have pid : ∀ n' os, (gx X1 n' os).cell? ⟨wo.heap.size, 0, none⟩ = some (.int .i64 id) := cell_gx (by show wo.heap.size < _; have := hBm.size; omega) ((hBm.cell (p := ⟨wo.heap.size, 0, none⟩) (by show wo.heap.size < _; omega)).trans HD0.out)
        by_cases hc : m < l.length
        · have hci : (m : Int) < (l.length : Int) := by omega
          obtain ⟨b, off, e, hbl, hcl⟩ := HI2.out m hc
          cases e
          rw [Nat.zero_add] at hcl
          have pm : ∀ n' os, (gx X1 n' os).cell? ⟨ga, m, none⟩ = some (.int .i64 l[m]) := cell_gx (by show ga < _; have := hBm.size; omega) ((hBm.cell (p := ⟨ga, m, none⟩) hbl).trans hcl)
          by_cases hl2 : l[m] < id
          · go_upto_region 6 with fail
            refine wp_region_quiet_gx (by kernel_rfl) (by kernel_rfl) ?_
            repeat (first | go_big_quiet_step (fail) | (refine wpQuiet_step (fun K hK => ?_); go_simp; split <;> first | (exfalso; omega) | (refine hK _ ?_; clear hK K)))
            refine wpQuiet_nil ?_
            intro _ hw'
            obtain ⟨⟨nq, osq⟩, hw''⟩ := hw'
            subst hw''
            have hBq := hBm.trans ((gx_below X1 nq osq).mono hBm.size)
            go_wp2_with fail
            go_roundw
            case rel =>
              refine ⟨m + 1, by go_num, by omega, fun j hj hjm => ?_, hBq⟩
              by_cases e : j = m
              · subst e; exact hl2
              · exact HBe.out j hj (by omega)
            case measure => simp [RowKit.intOf]; omega
          · go_upto_region 6 with fail
            refine wp_region_quiet_gx (by kernel_rfl) (by kernel_rfl) ?_
            repeat (first | go_big_quiet_step (fail) | (refine wpQuiet_step (fun K hK => ?_); go_simp; split <;> first | (exfalso; omega) | (refine hK _ ?_; clear hK K)))
            refine wpQuiet_nil ?_
            intro _ hw'
            obtain ⟨⟨nq, osq⟩, hw''⟩ := hw'
            subst hw''
            have hBq := hBm.trans ((gx_below X1 nq osq).mono hBm.size)
            have hX : Hid (Below W2.heap.size W2 (gx X1 nq osq)) := hBq
            clear hBq pm
            generalize gx X1 nq osq = X at hX ⊢
            have hrX := row_same (w' := X) HRow.out (fun j hj => hX.out.block j (HRow.out.lt j hj).2)
            have hzX := hX.out.size
            have hBX := HB2.out.trans (hX.out.mono HB2.out.size)
            have hidX : X.cell? ⟨wo.heap.size, 0, none⟩ = some (.int .i64 id) := (hX.out.cell (p := ⟨wo.heap.size, 0, none⟩) (by show wo.heap.size < _; omega)).trans HD0.out
            have hgw := (HRow.out.lt ga rfl).1
            obtain ⟨X2, hX2⟩ : ∃ X2, X.alloc (.cells #[] 3) = X2 := ⟨_, rfl⟩
            have b2 : Below X.heap.size X X2 := by rw [← hX2]; exact (Below.refl _ _).alloc (Nat.le_refl _) _
            have z2 : X2.heap.size = X.heap.size + 1 := by rw [← hX2]; simp
            have wz : w.heap.size ≤ X.heap.size := hBX.size
            have rowE : X2.ownsRow w.heap.size 3 1 (.slice (some ⟨X.heap.size, 0, none⟩) 0 0) ([] : List Int).length (ivs []) := by rw [← hX2]; exact World.ownsRow_lit (base := w.heap.size) (e := 3) (size := 1) X #[] 0 wz (by decide) rfl
            have rowO2 := row_same (w' := X2) hrX (fun j hj => b2.block j (hrX.lt j hj).2)
            have hBX2 := hBX.trans (b2.mono hBX.size)
            have hid2 := (b2.cell (p := ⟨wo.heap.size, 0, none⟩) (by show wo.heap.size < _; omega)).trans hidX
            have HE := Lib.hid rowE
            have HO2 := Lib.hid rowO2
            have HBX2 := Lib.hid hBX2
            have HI2' := Lib.hid hid2
            have hcm : ¬ ca < m := by omega
            have hcm2 : m ≤ ca := by omega
            have hltm : (l.take m).length = m := by simp; omega
            have wz2 : w.heap.size ≤ X2.heap.size := by omega
            clear hrX b2 rowE rowO2 hBX2 hid2 hidX hBX
            go_wp2_with (at_builtin; refine Hid.out ?_)
            refine Lib.hid ?_
            refine wpList_appI rfl _ _ rfl w.heap.size (.slice (some ⟨X.heap.size, 0, none⟩) 0 0) [] (l.take m) (some ⟨ga, 0, none⟩) ca rfl HE.out (by rw [hltm]; rfl) (src_take HO2.out m) (by simp; omega) wz2 ?_
            intro v3 w3 hr3 hg3 hat3
            rw [List.nil_append] at hr3
            obtain ⟨sp3, cp3, rfl⟩ := row_form hr3
            have hn3 : (Value.slice sp3 (l.take m).length cp3).ownBlock ≠ some ga := fun e => by
              rcases hat3 with e2 | e2
              · rw [e2] at e; simp [Value.ownBlock] at e; omega
              · rw [e2] at e; simp at e; omega
            have same3 : ∀ j, j < X2.heap.size → j ≠ X.heap.size → w3.heap[j]? = X2.heap[j]? := fun j hj hn => hg3.block j hj (fun e => by simp [Value.ownBlock] at e; exact hn e)
            have hB3 : Below w.heap.size w w3 := Below.grown HBX2.out hg3 wz2 (fun j hj => (HE.out.lt j hj).1)
            have z3 := hg3.size
            have hgaX : ga < X.heap.size := by omega
            have rowO3 := row_same (w' := w3) HO2.out (fun j hj => by simp [Value.ownBlock] at hj; subst hj; exact same3 ga (by omega) (by omega))
            have id3 : w3.cell? ⟨wo.heap.size, 0, none⟩ = some (.int .i64 id) := (World.cell?_of_block (a := ⟨wo.heap.size, 0, none⟩) (same3 wo.heap.size (by omega) (by omega))).trans HI2'.out
            obtain ⟨W4, hW4⟩ : ∃ W4, w3.alloc (.cells #[.int .i64 id] 3) = W4 := ⟨_, rfl⟩
            have b4 : Below w3.heap.size w3 W4 := by rw [← hW4]; exact (Below.refl _ _).alloc (Nat.le_refl _) _
            have z4 : W4.heap.size = w3.heap.size + 1 := by rw [← hW4]; simp
            have hone : One1 w3.heap.size id (.slice (some ⟨w3.heap.size, 0, none⟩) 1 1) W4 := ⟨w3.heap.size, rfl, Nat.le_refl _, by rw [← hW4]; exact heap_new _ _⟩
            have row4 := row_same (w' := W4) hr3 (fun j hj => b4.block j (hr3.lt j hj).2)
            have rowO4 := row_same (w' := W4) rowO3 (fun j hj => b4.block j (rowO3.lt j hj).2)
            have hB4 := hB3.trans (b4.mono hB3.size)
            have HR4 := Lib.hid row4
            have HO4 := Lib.hid rowO4
            have HN4 := Lib.hid hone
            have HB4 := Lib.hid hB4
            have HNE3 := Lib.hid hn3
            have wz4 : w.heap.size ≤ W4.heap.size := by omega
            clear hr3 hg3 hat3 hn3 same3 hB3 rowO3 b4 hone row4 rowO4 hB4 HE HO2 HBX2 HI2'
            go_wp2_with (at_builtin; refine Hid.out ?_)
            refine Lib.hid ?_
            obtain ⟨q, hq, hsq⟩ := HN4.out.src
            refine wpList_appI rfl _ _ rfl w.heap.size (.slice sp3 (l.take m).length cp3) (l.take m) [id] q 1 (by first | rfl | (rw [hltm]; rfl)) HR4.out hq hsq (by simp; omega) wz4 ?_
            intro v5 w5 hr5 hg5 hat5
            obtain ⟨sp5, cp5, rfl⟩ := row_form hr5
            have hn5 : (Value.slice sp5 (l.take m ++ [id]).length cp5).ownBlock ≠ some ga := fun e => by
              rcases hat5 with e2 | e2
              · rw [e2] at e; exact HNE3.out e
              · rw [e2] at e; simp at e; omega
            have rowO5 := row_same (w' := w5) HO4.out (fun j hj => by simp [Value.ownBlock] at hj; subst hj; exact hg5.block ga (by omega) (fun e => HNE3.out e.symm))
            have hB5 : Below w.heap.size w w5 := Below.grown HB4.out hg5 wz4 (fun j hj => (HR4.out.lt j hj).1)
            have wz5 : w.heap.size ≤ w5.heap.size := hB5.size
            have HR5 := Lib.hid hr5
            have HO5 := Lib.hid rowO5
            have HB5 := Lib.hid hB5
            clear hr5 hg5 hat5 hn5 rowO5 hB5 hq hsq HR4 HO4 HN4 HB4 id3
            have hldm : (l.drop m).length = l.length - m := by simp
            have hlt1 : (l.take m ++ [id]).length = m + 1 := by rw [List.length_append, hltm]; rfl
            have hmi : (0 : Int) ≤ (m : Int) := by omega
            have hmi2 : (m : Int) ≤ (l.length : Int) := by omega
            have hcam : ¬ ca = m := by omega
            go_wp2_with (at_builtin; refine Hid.out ?_)
            refine Lib.hid ?_
            refine wpList_appI rfl _ _ rfl w.heap.size (.slice sp5 (l.take m ++ [id]).length cp5) (l.take m ++ [id]) (l.drop m) (if ca = m then some ⟨ga, 0, none⟩ else some ⟨ga, m, none⟩) (ca - m) (by first | rfl | (rw [hlt1]; rfl)) HR5.out (by first | (rw [hldm]; rfl) | (rw [hldm, if_neg (by omega)]; rfl) | (rw [hldm, if_pos hcam, hcam, Nat.sub_self]; rfl)) (src_drop HO5.out m) (by simp; omega) wz5 ?_
            intro v7 w7 hr7 hg7 hat7
            have hB7 : Below w.heap.size w w7 := Below.grown HB5.out hg7 wz5 (fun j hj => (HR5.out.lt j hj).1)
            have HR7 := Lib.hid hr7
            have HB7 := Lib.hid hB7
            clear hr7 hg7 hat7 hB7 HO5 HR5 HB5
            go_wp2_with fail
            go_roundw
            case rel =>
              obtain ⟨hsrt, hmem⟩ := HIds.out
              have hnot : id ∉ l := fun e => by
                have := (hmem id).1 e
                obtain ⟨t, ht, et⟩ := List.mem_map.1 this
                obtain ⟨j, hj, rfl⟩ := List.getElem_of_mem ht
                have hj' : j < k := by simp at hj; omega
                rw [List.getElem_take] at et
                have := id_inj HND.out (by omega : j < L.length) hlt (et.trans HId.out.symm)
                omega
              have hs2 := ins_sorted (x := id) hsrt hm HBe.out (fun hj => by
                have h1 : ¬ l[m] < id := by omega
                have h2 : l[m] ≠ id := fun e => hnot (e ▸ List.getElem_mem hj)
                omega)
              obtain ⟨g8, c8, e8⟩ : ∃ g8 c8, v7 = .slice (some ⟨g8, 0, none⟩) (l.take m ++ [id] ++ l.drop m).length c8 := by
                rcases HR7.out.2 with ⟨_, e⟩ | ⟨g3, c3, cur, e, _⟩
                · simp at e
                · exact ⟨g3, c3, e⟩
              refine ⟨k + 1, _, g8, c8, by go_num, by omega, e8, HR7.out, HB7.out, ?_, hs2, fun x => ?_⟩
              · have := HLen.out; simp; omega
              · have e1 := hmem x
                have hx : x ∈ l ↔ x ∈ l.take m ∨ x ∈ l.drop m := by rw [← List.mem_append, List.take_append_drop]
                rw [List.take_succ_eq_append_getElem hlt, List.map_append]
                simp only [List.mem_append, ← e1, hx, List.map_cons, List.map_nil, HId.out, List.mem_singleton]
                constructor
                · rintro ((h | h) | h) <;> simp [h]
                · rintro ((h | h) | h) <;> simp [h]
            case measure => simp [RowKit.intOf]; omega
        · have hci : ¬ (m : Int) < (l.length : Int) := by omega
          have pm : True := trivial
          go_upto_region 6 with fail
          refine wp_region_quiet_gx (by kernel_rfl) (by kernel_rfl) ?_
          repeat (first | go_big_quiet_step (fail) | (refine wpQuiet_step (fun K hK => ?_); go_simp; split <;> first | (exfalso; omega) | (refine hK _ ?_; clear hK K)))
          refine wpQuiet_nil ?_
          intro _ hw'
          obtain ⟨⟨nq, osq⟩, hw''⟩ := hw'
          subst hw''
          have hBq := hBm.trans ((gx_below X1 nq osq).mono hBm.size)
          have hX : Hid (Below W2.heap.size W2 (gx X1 nq osq)) := hBq
          clear hBq pm
          generalize gx X1 nq osq = X at hX ⊢
          have hrX := row_same (w' := X) HRow.out (fun j hj => hX.out.block j (HRow.out.lt j hj).2)
          have hzX := hX.out.size
          have hBX := HB2.out.trans (hX.out.mono HB2.out.size)
          have hidX : X.cell? ⟨wo.heap.size, 0, none⟩ = some (.int .i64 id) := (hX.out.cell (p := ⟨wo.heap.size, 0, none⟩) (by show wo.heap.size < _; omega)).trans HD0.out
          have hgw := (HRow.out.lt ga rfl).1
          obtain ⟨X2, hX2⟩ : ∃ X2, X.alloc (.cells #[] 3) = X2 := ⟨_, rfl⟩
          have b2 : Below X.heap.size X X2 := by rw [← hX2]; exact (Below.refl _ _).alloc (Nat.le_refl _) _
          have z2 : X2.heap.size = X.heap.size + 1 := by rw [← hX2]; simp
          have wz : w.heap.size ≤ X.heap.size := hBX.size
          have rowE : X2.ownsRow w.heap.size 3 1 (.slice (some ⟨X.heap.size, 0, none⟩) 0 0) ([] : List Int).length (ivs []) := by rw [← hX2]; exact World.ownsRow_lit (base := w.heap.size) (e := 3) (size := 1) X #[] 0 wz (by decide) rfl
          have rowO2 := row_same (w' := X2) hrX (fun j hj => b2.block j (hrX.lt j hj).2)
          have hBX2 := hBX.trans (b2.mono hBX.size)
          have hid2 := (b2.cell (p := ⟨wo.heap.size, 0, none⟩) (by show wo.heap.size < _; omega)).trans hidX
          have HE := Lib.hid rowE
          have HO2 := Lib.hid rowO2
          have HBX2 := Lib.hid hBX2
          have HI2' := Lib.hid hid2
          have hcm : ¬ ca < m := by omega
          have hcm2 : m ≤ ca := by omega
          have hltm : (l.take m).length = m := by simp; omega
          have wz2 : w.heap.size ≤ X2.heap.size := by omega
          clear hrX b2 rowE rowO2 hBX2 hid2 hidX hBX
          go_wp2_with (at_builtin; refine Hid.out ?_)
          refine Lib.hid ?_
          refine wpList_appI rfl _ _ rfl w.heap.size (.slice (some ⟨X.heap.size, 0, none⟩) 0 0) [] (l.take m) (some ⟨ga, 0, none⟩) ca rfl HE.out (by rw [hltm]; rfl) (src_take HO2.out m) (by simp; omega) wz2 ?_
          intro v3 w3 hr3 hg3 hat3
          rw [List.nil_append] at hr3
          obtain ⟨sp3, cp3, rfl⟩ := row_form hr3
          have hn3 : (Value.slice sp3 (l.take m).length cp3).ownBlock ≠ some ga := fun e => by
            rcases hat3 with e2 | e2
            · rw [e2] at e; simp [Value.ownBlock] at e; omega
            · rw [e2] at e; simp at e; omega
          have same3 : ∀ j, j < X2.heap.size → j ≠ X.heap.size → w3.heap[j]? = X2.heap[j]? := fun j hj hn => hg3.block j hj (fun e => by simp [Value.ownBlock] at e; exact hn e)
          have hB3 : Below w.heap.size w w3 := Below.grown HBX2.out hg3 wz2 (fun j hj => (HE.out.lt j hj).1)
          have z3 := hg3.size
          have hgaX : ga < X.heap.size := by omega
          have rowO3 := row_same (w' := w3) HO2.out (fun j hj => by simp [Value.ownBlock] at hj; subst hj; exact same3 ga (by omega) (by omega))
          have id3 : w3.cell? ⟨wo.heap.size, 0, none⟩ = some (.int .i64 id) := (World.cell?_of_block (a := ⟨wo.heap.size, 0, none⟩) (same3 wo.heap.size (by omega) (by omega))).trans HI2'.out
          obtain ⟨W4, hW4⟩ : ∃ W4, w3.alloc (.cells #[.int .i64 id] 3) = W4 := ⟨_, rfl⟩
          have b4 : Below w3.heap.size w3 W4 := by rw [← hW4]; exact (Below.refl _ _).alloc (Nat.le_refl _) _
          have z4 : W4.heap.size = w3.heap.size + 1 := by rw [← hW4]; simp
          have hone : One1 w3.heap.size id (.slice (some ⟨w3.heap.size, 0, none⟩) 1 1) W4 := ⟨w3.heap.size, rfl, Nat.le_refl _, by rw [← hW4]; exact heap_new _ _⟩
          have row4 := row_same (w' := W4) hr3 (fun j hj => b4.block j (hr3.lt j hj).2)
          have rowO4 := row_same (w' := W4) rowO3 (fun j hj => b4.block j (rowO3.lt j hj).2)
          have hB4 := hB3.trans (b4.mono hB3.size)
          have HR4 := Lib.hid row4
          have HO4 := Lib.hid rowO4
          have HN4 := Lib.hid hone
          have HB4 := Lib.hid hB4
          have HNE3 := Lib.hid hn3
          have wz4 : w.heap.size ≤ W4.heap.size := by omega
          clear hr3 hg3 hat3 hn3 same3 hB3 rowO3 b4 hone row4 rowO4 hB4 HE HO2 HBX2 HI2'
          go_wp2_with (at_builtin; refine Hid.out ?_)
          refine Lib.hid ?_
          obtain ⟨q, hq, hsq⟩ := HN4.out.src
          refine wpList_appI rfl _ _ rfl w.heap.size (.slice sp3 (l.take m).length cp3) (l.take m) [id] q 1 (by first | rfl | (rw [hltm]; rfl)) HR4.out hq hsq (by simp; omega) wz4 ?_
          intro v5 w5 hr5 hg5 hat5
          obtain ⟨sp5, cp5, rfl⟩ := row_form hr5
          have hn5 : (Value.slice sp5 (l.take m ++ [id]).length cp5).ownBlock ≠ some ga := fun e => by
            rcases hat5 with e2 | e2
            · rw [e2] at e; exact HNE3.out e
            · rw [e2] at e; simp at e; omega
          have rowO5 := row_same (w' := w5) HO4.out (fun j hj => by simp [Value.ownBlock] at hj; subst hj; exact hg5.block ga (by omega) (fun e => HNE3.out e.symm))
          have hB5 : Below w.heap.size w w5 := Below.grown HB4.out hg5 wz4 (fun j hj => (HR4.out.lt j hj).1)
          have wz5 : w.heap.size ≤ w5.heap.size := hB5.size
          have HR5 := Lib.hid hr5
          have HO5 := Lib.hid rowO5
          have HB5 := Lib.hid hB5
          clear hr5 hg5 hat5 hn5 rowO5 hB5 hq hsq HR4 HO4 HN4 HB4 id3
          have hldm : (l.drop m).length = l.length - m := by simp
          have hlt1 : (l.take m ++ [id]).length = m + 1 := by rw [List.length_append, hltm]; rfl
          have hmi : (0 : Int) ≤ (m : Int) := by omega
          have hmi2 : (m : Int) ≤ (l.length : Int) := by omega
          by_cases hcam : ca = m
          · go_wp2_with (at_builtin; refine Hid.out ?_)
            refine Lib.hid ?_
            refine wpList_appI rfl _ _ rfl w.heap.size (.slice sp5 (l.take m ++ [id]).length cp5) (l.take m ++ [id]) (l.drop m) (if ca = m then some ⟨ga, 0, none⟩ else some ⟨ga, m, none⟩) (ca - m) (by first | rfl | (rw [hlt1]; rfl)) HR5.out (by first | (rw [hldm]; rfl) | (rw [hldm, if_neg (by omega)]; rfl) | (rw [hldm, if_pos hcam, hcam, Nat.sub_self]; rfl)) (src_drop HO5.out m) (by simp; omega) wz5 ?_
            intro v7 w7 hr7 hg7 hat7
            have hB7 : Below w.heap.size w w7 := Below.grown HB5.out hg7 wz5 (fun j hj => (HR5.out.lt j hj).1)
            have HR7 := Lib.hid hr7
            have HB7 := Lib.hid hB7
            clear hr7 hg7 hat7 hB7 HO5 HR5 HB5
            go_wp2_with fail
            go_roundw
            case rel =>
              obtain ⟨hsrt, hmem⟩ := HIds.out
              have hnot : id ∉ l := fun e => by
                have := (hmem id).1 e
                obtain ⟨t, ht, et⟩ := List.mem_map.1 this
                obtain ⟨j, hj, rfl⟩ := List.getElem_of_mem ht
                have hj' : j < k := by simp at hj; omega
                rw [List.getElem_take] at et
                have := id_inj HND.out (by omega : j < L.length) hlt (et.trans HId.out.symm)
                omega
              have hs2 := ins_sorted (x := id) hsrt hm HBe.out (fun hj => by
                have h1 : ¬ l[m] < id := absurd hj (by omega)
                have h2 : l[m] ≠ id := fun e => hnot (e ▸ List.getElem_mem hj)
                omega)
              obtain ⟨g8, c8, e8⟩ : ∃ g8 c8, v7 = .slice (some ⟨g8, 0, none⟩) (l.take m ++ [id] ++ l.drop m).length c8 := by
                rcases HR7.out.2 with ⟨_, e⟩ | ⟨g3, c3, cur, e, _⟩
                · simp at e
                · exact ⟨g3, c3, e⟩
              refine ⟨k + 1, _, g8, c8, by go_num, by omega, e8, HR7.out, HB7.out, ?_, hs2, fun x => ?_⟩
              · have := HLen.out; simp; omega
              · have e1 := hmem x
                have hx : x ∈ l ↔ x ∈ l.take m ∨ x ∈ l.drop m := by rw [← List.mem_append, List.take_append_drop]
                rw [List.take_succ_eq_append_getElem hlt, List.map_append]
                simp only [List.mem_append, ← e1, hx, List.map_cons, List.map_nil, HId.out, List.mem_singleton]
                constructor
                · rintro ((h | h) | h) <;> simp [h]
                · rintro ((h | h) | h) <;> simp [h]
            case measure => simp [RowKit.intOf]; omega
          · go_wp2_with (at_builtin; refine Hid.out ?_)
            refine Lib.hid ?_
            refine wpList_appI rfl _ _ rfl w.heap.size (.slice sp5 (l.take m ++ [id]).length cp5) (l.take m ++ [id]) (l.drop m) (if ca = m then some ⟨ga, 0, none⟩ else some ⟨ga, m, none⟩) (ca - m) (by first | rfl | (rw [hlt1]; rfl)) HR5.out (by first | (rw [hldm]; rfl) | (rw [hldm, if_neg (by omega)]; rfl) | (rw [hldm, if_pos hcam, hcam, Nat.sub_self]; rfl)) (src_drop HO5.out m) (by simp; omega) wz5 ?_
            intro v7 w7 hr7 hg7 hat7
            have hB7 : Below w.heap.size w w7 := Below.grown HB5.out hg7 wz5 (fun j hj => (HR5.out.lt j hj).1)
            have HR7 := Lib.hid hr7
            have HB7 := Lib.hid hB7
            clear hr7 hg7 hat7 hB7 HO5 HR5 HB5
            go_wp2_with fail
            go_roundw
            case rel =>
              obtain ⟨hsrt, hmem⟩ := HIds.out
              have hnot : id ∉ l := fun e => by
                have := (hmem id).1 e
                obtain ⟨t, ht, et⟩ := List.mem_map.1 this
                obtain ⟨j, hj, rfl⟩ := List.getElem_of_mem ht
                have hj' : j < k := by simp at hj; omega
                rw [List.getElem_take] at et
                have := id_inj HND.out (by omega : j < L.length) hlt (et.trans HId.out.symm)
                omega
              have hs2 := ins_sorted (x := id) hsrt hm HBe.out (fun hj => by
                have h1 : ¬ l[m] < id := absurd hj (by omega)
                have h2 : l[m] ≠ id := fun e => hnot (e ▸ List.getElem_mem hj)
                omega)
              obtain ⟨g8, c8, e8⟩ : ∃ g8 c8, v7 = .slice (some ⟨g8, 0, none⟩) (l.take m ++ [id] ++ l.drop m).length c8 := by
                rcases HR7.out.2 with ⟨_, e⟩ | ⟨g3, c3, cur, e, _⟩
                · simp at e
                · exact ⟨g3, c3, e⟩
              refine ⟨k + 1, _, g8, c8, by go_num, by omega, e8, HR7.out, HB7.out, ?_, hs2, fun x => ?_⟩
              · have := HLen.out; simp; omega
              · have e1 := hmem x
                have hx : x ∈ l ↔ x ∈ l.take m ∨ x ∈ l.drop m := by rw [← List.mem_append, List.take_append_drop]
                rw [List.take_succ_eq_append_getElem hlt, List.map_append]
                simp only [List.mem_append, ← e1, hx, List.map_cons, List.map_nil, HId.out, List.mem_singleton]
                constructor
                · rintro ((h | h) | h) <;> simp [h]
                · rintro ((h | h) | h) <;> simp [h]
            case measure => simp [RowKit.intOf]; omega
    · have hkk : ¬ (k : Int) < (L.length : Int) := by omega
      obtain rfl : k = L.length := by omega
      have HRow := Lib.hid hrow
      clear hrow
      go_wp2_with fail
      go_ret
      have := HIds.out
      rw [List.take_length] at this
      exact ⟨some ⟨ga, 0, none⟩, ca, l, rfl, row_ints HRow.out, hB, this⟩
end
end Go.Proofs.Ytebcnlhgkpaghaa
/- Laws for the regions in which both tables are asked. -/
namespace Go.Proofs.Ytebcnlhgkpaghaa
open Go.RowKit Go.Sort
section
variable {P : Program}
/-- A region whose order is drawn, by what holds whichever operations are done. -/
theorem wp_region_inv8 {ops : Array Oper} {id : Nat} {Q : Exit → Act → World → Prop} {a : Act} {w : World} (I : Array Bool → Act → World → Prop) (hm : P.follows .mixedOrders = true)
    (hstep : ∀ li a w i o, I li a w → li.getD i true = false → ops[i]? = some o → (∀ e ∈ o.after, Region.binds .any e = true → li.getD e.on false = true) → Region.wanted o (yielded ops a.tmps) = true ∧
      ((∃ v w', (execOp a.eval o).run P w = .ok (.value v) w' ∧ I (li.setIfInBounds i true) (a.put o.dst v) w') ∨
       (∃ f args, (execOp a.eval o).run P w = .ok (.enter f args) w ∧ Calls P f args w fun e w' => ∃ v, e = .returned v ∧ I (li.setIfInBounds i true) (a.put o.dst v) w')))
    (hend : ∀ li a w, I li a w → Region.ready .any ops li = [] → Q .normal a w) (h0 : I (Array.replicate ops.size false) a { w with drawn := w.drawn + 1 }) : (Code.region id ops true).wp P Q a w := by
  refine wp_region_any hm ?_
  have main : ∀ (fuel : Nat) (li : Array Bool) (a : Act) (w : World), li.toList.count false ≤ fuel → I li a w → wpAny P .any ops Q fuel li a w := by
    intro fuel
    induction fuel with
    | zero =>
      intro li a w hc h
      have he : Region.ready .any ops li = [] := by
        cases hr : Region.ready .any ops li with
        | nil => rfl
        | cons j r =>
          have hj := (mem_ready.1 (show j ∈ Region.ready .any ops li from by rw [hr]; exact List.mem_cons_self ..)).1
          exfalso
          have : li.toList[j]? = some false := by
            rw [Array.getD_eq_getD_getElem?] at hj
            rw [Array.getElem?_toList]
            cases hx : li[j]? with
            | none => rw [hx] at hj; cases hj
            | some b => rw [hx] at hj; simpa using hj
          have := List.count_pos_iff.2 (List.mem_of_getElem? this)
          omega
      exact ⟨he, hend li a w h he⟩
    | succ f ih =>
      intro li a w hc h
      refine ⟨fun he => hend li a w h he, fun i hi => ?_⟩
      obtain ⟨hu, o, ho, hd⟩ := mem_ready.1 hi
      obtain ⟨h1, h2⟩ := hstep li a w i o h hu ho hd
      have hl : li.toList[i]? = some false := by
        rw [Array.getD_eq_getD_getElem?] at hu
        rw [Array.getElem?_toList]
        cases hx : li[i]? with
        | none => rw [hx] at hu; cases hu
        | some b => rw [hx] at hu; simpa using hu
      have hcc := cf_set _ _ hl
      have hle : (li.setIfInBounds i true).toList.count false ≤ f := by rw [Array.toList_setIfInBounds]; omega
      unfold wpOp
      rw [ho]
      simp only [h1, if_true]
      refine .inl ?_
      unfold Oper.wp
      rcases h2 with ⟨v, w', hr, hI⟩ | ⟨f', args, hr, hc'⟩
      · rw [hr]; exact ih _ _ _ hle hI
      · rw [hr]
        exact hc'.mono fun e w'' ⟨v, he, hI⟩ => by subst he; exact ih _ _ _ hle hI
  exact main _ _ _ _ (by simp) h0
def phs (b1 b2 : Bool) : Nat := if b1 then (if b2 then 2 else 1) else 0
theorem getD_fst {li : Array Bool} {i : Nat} (h : li.getD i true = false) : li.getD i false = false := by
  rw [Array.getD_eq_getD_getElem?] at h ⊢
  cases hx : li[i]? with
  | none => rw [hx] at h; cases h
  | some b => rw [hx] at h; simpa using h
theorem getD_setS {li : Array Bool} {i : Nat} (h : li.getD i true = false) : (li.setIfInBounds i true).getD i false = true := by
  rw [Array.getD_eq_getD_getElem?] at h ⊢
  cases hx : li[i]? with
  | none => rw [hx] at h; cases h
  | some b =>
    have hlt := (Array.getElem?_eq_some_iff.1 hx).1
    rw [Array.getElem?_setIfInBounds_self_of_lt hlt]; rfl
theorem getD_setN {li : Array Bool} {i j : Nat} (h : j ≠ i) : (li.setIfInBounds i true).getD j false = li.getD j false := by
  rw [Array.getD_eq_getD_getElem?, Array.getElem?_setIfInBounds_ne (Ne.symm h), ← Array.getD_eq_getD_getElem?]
/-- The law: the operations c1 and c2 change memory, the others keep all that is older. -/
theorem wp_region_ph {l : List Oper} {id : Nat} {Q : Exit → Act → World → Prop} {a : Act} {w : World} (f c1 c2 : Nat) (R : World → World → Prop) (J : Nat → World → Prop) (G : Nat → Value → World → Prop)
    (hm : P.follows .mixedOrders = true) (hback : backB l.toArray = true) (hdst : dstB l.toArray a.tmps.size = true) (hneed : needB l.toArray f c2 c1 = true) (hc2 : c2 < l.length) (hc12 : c1 ≠ c2)
    (hRb : ∀ W W', Below W.heap.size W W' → R W W') (hRt : ∀ A B C, R A B → R B C → R A C)
    (hJ : ∀ p W W', J p W → Below W.heap.size W W' → J p W') (hJ0 : J 0 { w with drawn := w.drawn + 1 })
    (hmono : ∀ k v W W', G k v W → R W W' → G k v W')
    (hstep : ∀ (a' : Act) (W : World) (p : Nat), J p W → R w W → a'.tmps.size = a.tmps.size → (∀ k, (dsts l.toArray).contains k = false → a'.eval (.tmp k) = a.eval (.tmp k)) →
      ∀ (i : Nat) (o : Oper) (d : Nat), l[i]? = some o → o.dst = some d → (i = c1 → p = 0) → (i = c2 → p = 1) →
      (∀ e ∈ o.after, Region.binds .any e = true → ∀ d', (l[e.on]?).bind (·.dst) = some d' → G d' (a'.eval (.tmp d')) W) →
      Region.wanted o (yielded l.toArray a'.tmps) = true ∧ ((∃ v W', (execOp a'.eval o).run P W = .ok (.value v) W' ∧ (Below W.heap.size W W' ∧ i ≠ c1 ∧ i ≠ c2) ∧ G d v W') ∨
        (∃ f args, (execOp a'.eval o).run P W = .ok (.enter f args) W ∧ Calls P f args W fun e W' => ∃ v, e = .returned v ∧ ((Below W.heap.size W W' ∧ i ≠ c1 ∧ i ≠ c2) ∨ (R W W' ∧ J (p + 1) W' ∧ (i = c1 ∨ i = c2))) ∧ G d v W')))
    (hend : ∀ a' W, J 2 W → R w W → a'.tmps.size = a.tmps.size → a'.defers = a.defers → (∀ k, (dsts l.toArray).contains k = false → a'.eval (.tmp k) = a.eval (.tmp k)) →
      (∀ (i d : Nat), i < l.length → (l[i]?).bind (·.dst) = some d → G d (a'.eval (.tmp d)) W) → Q .normal a' W) : (Code.region id l.toArray true).wp P Q a w := by
  refine wp_region_inv8 (fun li a' W => ClB l.toArray li ∧ li.size = l.length ∧ a'.tmps.size = a.tmps.size ∧ a'.defers = a.defers ∧ (∀ k, (dsts l.toArray).contains k = false → a'.eval (.tmp k) = a.eval (.tmp k)) ∧ R w W ∧ (∀ (i d : Nat), li.getD i false = true → (l[i]?).bind (·.dst) = some d → G d (a'.eval (.tmp d)) W) ∧ J (phs (li.getD c1 false) (li.getD c2 false)) W) hm ?_ ?_ ?_
  · rintro li a' W i o ⟨hcl, hsz, hs, hdf, hk, hR, hG, hp⟩ hu ho hd
    obtain ⟨d, hdo, hdn⟩ := dst_of hdst ho
    have hc2o : ∃ o2, l.toArray[c2]? = some o2 := ⟨l[c2], by simp [hc2]⟩
    obtain ⟨o2, ho2⟩ := hc2o
    have h21 : li.getD c2 false = true → li.getD c1 false = true := fun h => need_done hcl f c2 c1 o2 ho2 (hcl c2 o2 ho2 h) hneed
    have e1 : i = c1 → phs (li.getD c1 false) (li.getD c2 false) = 0 := fun e => by
      subst e; rw [getD_fst hu]; rfl
    have e2 : i = c2 → phs (li.getD c1 false) (li.getD c2 false) = 1 := fun e => by
      subst e
      rw [getD_fst hu, need_done hcl f i c1 o ho hd hneed]; rfl
    have hlo : l[i]? = some o := by simpa using ho
    obtain ⟨hw, h2⟩ := hstep a' W _ hp hR hs hk i o d hlo hdo e1 e2 (fun e he hbd d' hd' => hG e.on d' (hd e he hbd) hd')
    have next : ∀ (v : Value) (W' : World), ((Below W.heap.size W W' ∧ i ≠ c1 ∧ i ≠ c2) ∨ (R W W' ∧ J (phs (li.getD c1 false) (li.getD c2 false) + 1) W' ∧ (i = c1 ∨ i = c2))) → G d v W' →
        ClB l.toArray (li.setIfInBounds i true) ∧ (li.setIfInBounds i true).size = l.length ∧ (a'.put o.dst v).tmps.size = a.tmps.size ∧ (a'.put o.dst v).defers = a.defers ∧ (∀ k, (dsts l.toArray).contains k = false → (a'.put o.dst v).eval (.tmp k) = a.eval (.tmp k)) ∧ R w W' ∧ (∀ (j dj : Nat), (li.setIfInBounds i true).getD j false = true → (l[j]?).bind (·.dst) = some dj → G dj ((a'.put o.dst v).eval (.tmp dj)) W') ∧ J (phs ((li.setIfInBounds i true).getD c1 false) ((li.setIfInBounds i true).getD c2 false)) W' := by
      intro v W' hb hv
      have hRW : R W W' := hb.elim (fun h => hRb _ _ h.1) (fun h => h.1)
      rw [hdo]
      refine ⟨hcl.set ho hd, by rw [Array.size_setIfInBounds]; exact hsz, by simp only [Act.put]; rw [Array.size_setIfInBounds]; exact hs, by simp only [Act.put]; exact hdf, ?_, hRt _ _ _ hR hRW, ?_, ?_⟩
      · intro k hkn
        rw [put_ne a' v (fun e => by rw [e, List.contains_iff_mem.2 (mem_dsts ho hdo)] at hkn; cases hkn)]
        exact hk k hkn
      · intro j dj hj hdj
        by_cases hij : j = i
        · subst hij
          rw [hlo] at hdj
          have : d = dj := Option.some.inj (hdo.symm.trans hdj)
          subst this
          rw [put_eq a' v (by rw [hs]; exact hdn)]
          exact hv
        · rw [getD_setN hij] at hj
          have hne : dj ≠ d := by
            intro e
            subst e
            cases hoj : l[j]? with
            | none => rw [hoj] at hdj; cases hdj
            | some o' =>
              rw [hoj] at hdj
              exact hij (dst_inj hdst (show l.toArray[j]? = some o' from by simpa using hoj) ho hdj hdo)
          rw [put_ne a' v hne]
          exact hmono _ _ _ _ (hG j dj hj hdj) hRW
      · rcases hb with ⟨hb, n1, n2⟩ | ⟨_, hj, hcc⟩
        · rw [getD_setN (Ne.symm n1), getD_setN (Ne.symm n2)]
          exact hJ _ _ _ hp hb
        · rcases hcc with e | e
          · rw [e1 e] at hj
            subst e
            rw [getD_setS hu, getD_setN (Ne.symm hc12)]
            have : li.getD c2 false = false := by
              cases hx : li.getD c2 false with
              | false => rfl
              | true => have := h21 hx; rw [getD_fst hu] at this; cases this
            rw [this]; exact hj
          · rw [e2 e] at hj
            subst e
            rw [getD_setS hu, getD_setN hc12, need_done hcl f i c1 o ho hd hneed]
            exact hj
    refine ⟨hw, ?_⟩
    rcases h2 with ⟨v, W', hr, hb, hv⟩ | ⟨f', args, hr, hc⟩
    · exact .inl ⟨v, W', hr, next v W' (.inl hb) hv⟩
    · exact .inr ⟨f', args, hr, hc.mono fun e W' ⟨v, he, hb, hv⟩ => ⟨v, he, next v W' hb hv⟩⟩
  · rintro li a' W ⟨hcl, hsz, hs, hdf, hk, hR, hG, hp⟩ he
    have hall : ∀ j, j < l.length → li.getD j false = true := fun j hj => ready_nil_all hback (by simpa using hsz) he j j (Nat.le_refl _) (by simpa using hj)
    have hc2o : ∃ o2, l.toArray[c2]? = some o2 := ⟨l[c2], by simp [hc2]⟩
    obtain ⟨o2, ho2⟩ := hc2o
    have h2 := hall c2 hc2
    rw [h2, need_done hcl f c2 c1 o2 ho2 (hcl c2 o2 ho2 h2) hneed] at hp
    exact hend a' W hp hR hs hdf hk (fun i d hi hd => hG i d (hall i hi) hd)
  · refine ⟨fun i o _ hi => by rw [Array.getD_eq_getD_getElem?, Array.getElem?_replicate] at hi; split at hi <;> simp at hi, by simp, rfl, rfl, fun _ _ => rfl, hRb _ _ ((Below.refl w.heap.size w).drew), ?_, ?_⟩
    · intro i d hi
      rw [Array.getD_eq_getD_getElem?, Array.getElem?_replicate] at hi
      split at hi <;> simp at hi
    · have : ∀ i, (Array.replicate l.toArray.size false).getD i false = false := fun i => by
        rw [Array.getD_eq_getD_getElem?, Array.getElem?_replicate]; split <;> rfl
      rw [this, this]; exact hJ0
end
theorem yielded_of {l : List Oper} {a' : Act} {j d : Nat} {b : Bool} {n : Nat} (hs : a'.tmps.size = n) (hd : (l[j]?).bind (·.dst) = some d) (hn : d < n) (hv : a'.eval (.tmp d) = .bool b) : yielded l.toArray a'.tmps j = some b := by
  unfold yielded
  simp only [List.getElem?_toArray]
  rw [hd]
  simp only [Option.bind_some]
  have hlt : d < a'.tmps.size := by omega
  simp only [Act.eval, Array.getD_eq_getD_getElem?, Array.getElem?_eq_getElem hlt, Option.getD_some] at hv
  rw [Array.getElem?_eq_getElem hlt, hv]
theorem want_yes {l : List Oper} {o : Oper} {a' : Act} {j d : Nat} {b : Bool} {n : Nat} (ho : o.guard = some (j, b)) (hs : a'.tmps.size = n) (hn : d < n) (hd : (l[j]?).bind (·.dst) = some d) (hv : a'.eval (.tmp d) = .bool b) : Region.wanted o (yielded l.toArray a'.tmps) = true := by
  unfold Region.wanted
  rw [ho]
  simp only
  rw [yielded_of hs hd hn hv]
  simp
theorem exec_call2 {o : Oper} {ev : Operand → Value} {f : Nat} {x0 x1 : Operand} {ts : Array TypeId} {v0 v1 : Value} {w : World} (ho : o.op = .call { callee := .value (.func f), args := #[x0, x1], argTypes := ts }) (hf : ev (.func f) = .func (.func f) #[] #[]) (h0 : ev x0 = v0) (h1 : ev x1 = v1) (eg : ∀ args w, (callFunc f args).run Try.prog w = .ok (.enter f args) w) : (execOp ev o).run Try.prog w = .ok (.enter f #[v0, v1]) w := by
  unfold execOp
  simp [ho, resolve, invoke, hf, h0, h1, eg, go_sem]
theorem exec_call3 {o : Oper} {ev : Operand → Value} {f : Nat} {x0 x1 x2 : Operand} {ts : Array TypeId} {v0 v1 v2 : Value} {w : World} (ho : o.op = .call { callee := .value (.func f), args := #[x0, x1, x2], argTypes := ts }) (hf : ev (.func f) = .func (.func f) #[] #[]) (h0 : ev x0 = v0) (h1 : ev x1 = v1) (h2 : ev x2 = v2) (eg : ∀ args w, (callFunc f args).run Try.prog w = .ok (.enter f args) w) : (execOp ev o).run Try.prog w = .ok (.enter f #[v0, v1, v2]) w := by
  unfold execOp
  simp [ho, resolve, invoke, hf, h0, h1, h2, eg, go_sem]
theorem exec_call4 {o : Oper} {ev : Operand → Value} {f : Nat} {x0 x1 x2 x3 : Operand} {ts : Array TypeId} {v0 v1 v2 v3 : Value} {w : World} (ho : o.op = .call { callee := .value (.func f), args := #[x0, x1, x2, x3], argTypes := ts }) (hf : ev (.func f) = .func (.func f) #[] #[]) (h0 : ev x0 = v0) (h1 : ev x1 = v1) (h2 : ev x2 = v2) (h3 : ev x3 = v3) (eg : ∀ args w, (callFunc f args).run Try.prog w = .ok (.enter f args) w) : (execOp ev o).run Try.prog w = .ok (.enter f #[v0, v1, v2, v3]) w := by
  unfold execOp
  simp [ho, resolve, invoke, hf, h0, h1, h2, h3, eg, go_sem]
/-- A row of numbers. -/
def IRV (l : List Int) (v : Value) (X : World) : Prop := ∃ sp cap, v = .slice sp l.length cap ∧ IntsAt X sp l
theorem IRV.below {l : List Int} {v : Value} {X X' : World} (h : IRV l v X) (hb : Below X.heap.size X X') : IRV l v X' := by
  obtain ⟨sp, cap, h1, h2⟩ := h
  refine ⟨sp, cap, h1, fun k hk => ?_⟩
  obtain ⟨b, off, e1, e2, e3⟩ := h2 k hk
  exact ⟨b, off, e1, Nat.lt_of_lt_of_le e2 hb.size, (hb.cell (p := ⟨b, off + k, none⟩) e2).trans e3⟩
theorem SameInts_irv {w : World} {u v : Value} {l : List Int} (hu : IRV l u w) (hv : IRV l v w) (hl : l.length < 1000000) : Calls Try.prog 22 #[u, v] w fun e w' => e = .returned (.bool true) ∧ Below w.heap.size w w' := by
  obtain ⟨p, c, rfl, hp⟩ := hu
  obtain ⟨q, d, rfl, hq⟩ := hv
  have := SameInts_any w p q c d l l hp hq hl
  rw [show (l == l) = true from by simp] at this
  exact this
theorem exec_call6 {o : Oper} {ev : Operand → Value} {f : Nat} {x0 x1 x2 x3 x4 x5 : Operand} {ts : Array TypeId} {v0 v1 v2 v3 v4 v5 : Value} {w : World} (ho : o.op = .call { callee := .value (.func f), args := #[x0, x1, x2, x3, x4, x5], argTypes := ts }) (hf : ev (.func f) = .func (.func f) #[] #[]) (h0 : ev x0 = v0) (h1 : ev x1 = v1) (h2 : ev x2 = v2) (h3 : ev x3 = v3) (h4 : ev x4 = v4) (h5 : ev x5 = v5) (eg : ∀ args w, (callFunc f args).run Try.prog w = .ok (.enter f args) w) : (execOp ev o).run Try.prog w = .ok (.enter f #[v0, v1, v2, v3, v4, v5]) w := by
  unfold execOp
  simp [ho, resolve, invoke, hf, h0, h1, h2, h3, h4, h5, eg, go_sem]
end Go.Proofs.Ytebcnlhgkpaghaa
/- Both tables side by side. -/
namespace Go.Proofs.Ytebcnlhgkpaghaa
open Go.RowKit Go.Sort
/-- Both tables tell the same; all that they change lies at b0 or behind it. -/
structure Bo (w : World) (b0 tb rb : Nat) (root : Int) (base mb : Nat) (F : Nat → Prop) (S : Abs) (g cap : Nat) (cs : Array Value) (L : List Th) : Prop where
  hx : HX root w base tb mb F S
  rs : RS w rb g cap cs root L F
  rel : RelD S L []
  b1 : b0 ≤ base
  b2 : b0 ≤ rb
  b3 : b0 ≤ g
  bw : b0 ≤ w.heap.size
section
variable {w w' : World} {b0 tb rb : Nat} {root : Int} {base mb : Nat} {F : Nat → Prop} {S : Abs} {g cap : Nat} {cs : Array Value} {L : List Th}
theorem Bo.below (h : Bo w b0 tb rb root base mb F S g cap cs L) (hb : Below w.heap.size w w') : Bo w' b0 tb rb root base mb F S g cap cs L :=
  ⟨h.hx.below hb, h.rs.below hb, h.rel, h.b1, h.b2, h.b3, Nat.le_trans h.bw hb.size⟩
theorem Bo.inv (h : Bo w b0 tb rb root base mb F S g cap cs L) : ∃ K, Inv root S K := by
  obtain ⟨K, _, _, _, _, _, hi⟩ := h.hx
  exact ⟨K, hi⟩
theorem Bo.len (h : Bo w b0 tb rb root base mb F S g cap cs L) : ∀ K, Inv root S K → K.length = L.length := fun K hi => by
  have : K.Perm (L.map (·.id)) := (List.perm_ext_iff_of_nodup hi.bal.nd h.rs.nd).2 (fun k => by
    rw [hi.bal.mem k]
    constructor
    · intro e
      obtain ⟨o, ho⟩ := Option.isSome_iff_exists.1 e
      obtain ⟨t, ht, et⟩ := h.rel.back k o ho
      exact List.mem_map.2 ⟨t, ht, et⟩
    · intro e
      obtain ⟨t, ht, rfl⟩ := List.mem_map.1 e
      obtain ⟨o, ho, _⟩ := h.rel.yes t ht (by simp)
      rw [ho]; rfl)
  rw [this.length_eq, List.length_map]
/-- A call of hold's has been done. -/
theorem Bo.hold (h : Bo w b0 tb rb root base mb F S g cap cs L) {S' : Abs} (hd : DidX root w base tb mb F S' w') : ∃ F', HX root w' base tb mb F' S' ∧ RS w' rb g cap cs root L F' ∧ Below b0 w w' := by
  obtain ⟨F', h1, h2⟩ := hd
  refine ⟨F', h1, h.rs.keep h2.same h2.size h2.new (fun k hk => (h1.lt hk).2), ⟨h2.os, h2.tape, h2.output, h2.size, fun k hk => h2.same k (Nat.lt_of_lt_of_le hk h.bw) (fun e => ?_)⟩⟩
  have := (h.hx.lt e).1
  have := h.b1
  omega
/-- And the reference's behind it. -/
theorem Bo.refd (h : Bo w b0 tb rb root base mb F S g cap cs L) {S' : Abs} {X X' : World} {F' : Nat → Prop} (h1 : HX root X base tb mb F' S') (hz : b0 ≤ X.heap.size) (h2 : RStep X X' rb g root F' S') (hr : RS X rb g cap cs root L F') : (∃ g' cap' cs' L', Bo X' b0 tb rb root base mb F' S' g' cap' cs' L') ∧ Below b0 X X' := by
  obtain ⟨g', cap', cs', L', r1, r2, r3⟩ := h2
  have hb : Below b0 X X' := ⟨r3.os, r3.tape, r3.output, r3.size, fun k hk => r3.same k (Nat.lt_of_lt_of_le hk hz) (fun e => by have := h.b2; have := h.b3; omega)⟩
  refine ⟨⟨g', cap', cs', L', ⟨h1.same (fun k hk => ?_), r1, r2, h.b1, h.b2, ?_, Nat.le_trans hz r3.size⟩⟩, hb⟩
  · refine r3.same k (h1.lt hk).2 (fun e => ?_)
    rcases e with e | e
    · exact hr.frb (e ▸ hk)
    · exact hr.frg (e ▸ hk)
  · rcases r3.new g' (.inr rfl) with e | e
    · rcases e with e | e
      · have := h.b2; omega
      · have := h.b3; omega
    · omega
def IdsS (l : List Int) (S : Abs) : Prop := l.Pairwise (· < ·) ∧ ∀ x, x ∈ l ↔ ∃ o, S x = some o
theorem ids_x {rt : Int} (h : HX rt w base tb mb F S) :
    Calls Try.prog 33 #[.pointer (some ⟨tb, 0, none⟩)] w fun e w' => ∃ p c l, e = .returned (.slice p (List.length l) c) ∧ IntsAt w' p l ∧ Below w.heap.size w w' ∧ l.length ≤ 4096 ∧ IdsS l S := by
  obtain ⟨K, D, T, h1, h2, _, h4⟩ := h
  have hlen := h4.len
  have hz := size_len h1 h2 h4
  refine (Ids_any h1 (by omega)).mono ?_
  rintro e w' ⟨v, rfl, hr, hb⟩
  obtain ⟨sp, cp, rfl⟩ := row_form hr
  have hk := keysD h1
  have hperm : (idsD D).Perm (intKeys D) := List.mergeSort_perm _ _
  have hnd : (idsD D).Nodup := (hperm.nodup_iff).2 hk.1
  have hle : (idsD D).Pairwise (fun x y => decide (x ≤ y) = true) := List.pairwise_mergeSort (fun a b c h1 h2 => by simp at *; omega) (fun a b => by simp; omega) _
  refine ⟨sp, cp, _, rfl, row_ints hr, hb, by rw [hperm.length_eq, hk.2.2]; omega, ?_, fun x => ?_⟩
  · exact (List.Pairwise.and hle hnd).imp (fun h => by have := h.1; have := h.2; simp at *; omega)
  · rw [← Option.isSome_iff_exists, ← h2.isSome x, ← hk.2.1 x]
    exact hperm.mem_iff
theorem ids_same (h : Bo w b0 tb rb root base mb F S g cap cs L) {l l' : List Int} (h1 : IdsS l S) (h2 : IdsOf l' L) : l' = l :=
  sorted_eq h2.1 h1.1 (fun x => by
    rw [h2.2 x, h1.2 x]
    constructor
    · intro e
      obtain ⟨t, ht, rfl⟩ := List.mem_map.1 e
      obtain ⟨o, ho, _⟩ := h.rel.yes t ht (by simp)
      exact ⟨o, ho⟩
    · rintro ⟨o, ho⟩
      obtain ⟨t, ht, et⟩ := h.rel.back x o ho
      exact List.mem_map.2 ⟨t, ht, et⟩)
end
end Go.Proofs.Ytebcnlhgkpaghaa
/- What told answers of both. -/
namespace Go.Proofs.Ytebcnlhgkpaghaa
open Go.RowKit Go.Sort
section
variable {w w' : World} {b0 tb rb : Nat} {root : Int} {base mb : Nat} {F : Nat → Prop} {S : Abs} {g cap : Nat} {cs : Array Value} {L : List Th}
set_option maxRecDepth 100000 in
set_option maxHeartbeats 8000000 in
theorem told_both (h : Bo w b0 tb rb root base mb F S g cap cs L) : Calls Try.prog 8 #[.pointer (some ⟨tb, 0, none⟩), .pointer (some ⟨rb, 0, none⟩)] w fun e w' => e = .returned (.bool true) ∧ Below w.heap.size w w' := by
  have HH := Lib.hid h
  have HIds := Lib.hid (ids_x h.hx)
  have hLn := h.rs.lim.1
  clear h
  go_enter Try.func8, Try.ntmps8
  go_upto_region 2 with (go_at_call 33; with_reducible refine Calls.mono HIds.out ?_; rintro e w1 ⟨p1, c1, l, rfl, hI1, hb1, hl1, hids⟩; have HI1 := Lib.hid hI1; have HB1 := Lib.hid hb1; have HIS := Lib.hid hids; clear hI1 hb1 hids)
  have h1 := HH.out.below HB1.out
  have H1 := Lib.hid h1
  have cW : ∀ X, Below w1.heap.size w1 X → X.cell? ⟨rb, 1, none⟩ = some (.slice (some ⟨g, 0, none⟩) L.length cap) := fun X hX => (h1.rs.below hX).hd.2
  clear h1
  refine wp_region_monoT 6 15 (fun kq uq Xq => match kq with | 18 => uq = .slice p1 l.length c1 | 19 => uq = .pointer (some ⟨rb, 0, none⟩) | 20 => IRV l (uq) Xq | 21 => uq = .bool true | 22 => uq = .bool false | 23 => uq = .bool false | 24 => uq = .pointer (some ⟨tb, 0, none⟩) | 25 => uq = .int .i64 L.length | 26 => uq = .pointer (some ⟨rb, 0, none⟩) | 27 => uq = .pointer (some ⟨rb, 0, none⟩) | 28 => uq = .pointer (some ⟨rb, 1, none⟩) | 29 => uq = .slice (some ⟨g, 0, none⟩) L.length cap | 30 => uq = .int .i64 L.length | 31 => uq = .bool false | 32 => uq = .bool false | _ => True) (by kernel_rfl) (by kernel_rfl) (by kernel_rfl) (by kernel_rfl) (by simp) (by kernel_rfl) ?_ ?_ ?_
  · intro kq v W W' h hb
    revert h
    try dsimp only
    split
    · intro h; exact h
    · intro h; exact h
    · intro h; exact IRV.below h hb
    · intro h; exact h
    · intro h; exact h
    · intro h; exact h
    · intro h; exact h
    · intro h; exact h
    · intro h; exact h
    · intro h; exact h
    · intro h; exact h
    · intro h; exact h
    · intro h; exact h
    · intro h; exact h
    · intro h; exact h
    · intro h; trivial
  · intro a' X hB hs hk i o d ho hd hG
    match i, ho with
    | 0, ho =>
      obtain rfl : _ = o := Option.some.inj ho
      obtain rfl : 18 = d := Option.some.inj hd
      have g5 : a'.eval (.tmp 5) = .slice p1 l.length c1 := hk 5 (by kernel_rfl)
      obtain ⟨ev, hev⟩ : ∃ ev, a'.eval = ev := ⟨_, rfl⟩
      rw [hev] at g5 ⊢
      clear hev hG hk
      have e1 := cW X hB
      exact .inr ⟨rfl, .inl ⟨.slice p1 l.length c1, X, by clear hs; go_simp, Below.refl _ _, rfl⟩⟩
    | 1, ho =>
      obtain rfl : _ = o := Option.some.inj ho
      obtain rfl : 19 = d := Option.some.inj hd
      have g1 : a'.eval (.tmp 1) = .pointer (some ⟨rb, 0, none⟩) := hk 1 (by kernel_rfl)
      obtain ⟨ev, hev⟩ : ∃ ev, a'.eval = ev := ⟨_, rfl⟩
      rw [hev] at g1 ⊢
      clear hev hG hk
      have e1 := cW X hB
      exact .inr ⟨rfl, .inl ⟨.pointer (some ⟨rb, 0, none⟩), X, by clear hs; go_simp, Below.refl _ _, rfl⟩⟩
    | 2, ho =>
      obtain rfl : _ = o := Option.some.inj ho
      obtain rfl : 20 = d := Option.some.inj hd
      have g19 : a'.eval (.tmp 19) = .pointer (some ⟨rb, 0, none⟩) := hG ⟨1, .data⟩ (by simp) rfl 19 rfl
      refine .inr ⟨rfl, .inr ⟨34, #[.pointer (some ⟨rb, 0, none⟩)], ?_, ?_⟩⟩
      · have gF : a'.eval (.func 34) = .func (.func 34) #[] #[] := rfl
        obtain ⟨ev, hev⟩ : ∃ ev, a'.eval = ev := ⟨_, rfl⟩
        rw [hev] at gF g19 ⊢
        exact exec_call1 rfl gF g19 (enters_of Try.func34 (by kernel_rfl) rfl)
      · exact (rIds_any (H1.out.rs.below hB)).mono fun e W' ⟨p', c', l', he, hI, hb, hi⟩ => ⟨_, he, hb, by obtain rfl := ids_same H1.out HIS.out hi; exact ⟨p', c', rfl, hI⟩⟩
    | 3, ho =>
      obtain rfl : _ = o := Option.some.inj ho
      obtain rfl : 21 = d := Option.some.inj hd
      have g18 : a'.eval (.tmp 18) = .slice p1 l.length c1 := hG ⟨0, .data⟩ (by simp) rfl 18 rfl
      have g20 : IRV l (a'.eval (.tmp 20)) X := hG ⟨2, .data⟩ (by simp) rfl 20 rfl
      refine .inr ⟨rfl, .inr ⟨22, #[.slice p1 l.length c1, a'.eval (.tmp 20)], ?_, ?_⟩⟩
      · have gF : a'.eval (.func 22) = .func (.func 22) #[] #[] := rfl
        obtain ⟨ev, hev⟩ : ∃ ev, a'.eval = ev := ⟨_, rfl⟩
        rw [hev] at gF g18 g20 ⊢
        exact exec_call2 rfl gF g18 rfl (enters_of Try.func22 (by kernel_rfl) rfl)
      · exact (SameInts_irv ⟨p1, c1, rfl, HI1.out.below hB⟩ g20 (by omega)).mono fun e W' ⟨he, hb⟩ => ⟨_, he, hb, rfl⟩
    | 4, ho =>
      obtain rfl : _ = o := Option.some.inj ho
      obtain rfl : 22 = d := Option.some.inj hd
      have g21 : a'.eval (.tmp 21) = .bool true := hG ⟨3, .data⟩ (by simp) rfl 21 rfl
      obtain ⟨ev, hev⟩ : ∃ ev, a'.eval = ev := ⟨_, rfl⟩
      rw [hev] at g21 ⊢
      clear hev hG hk
      have e1 := cW X hB
      exact .inr ⟨rfl, .inl ⟨.bool false, X, by clear hs; go_simp, Below.refl _ _, rfl⟩⟩
    | 5, ho =>
      obtain rfl : _ = o := Option.some.inj ho
      obtain rfl : 23 = d := Option.some.inj hd
      have g22 : a'.eval (.tmp 22) = .bool false := hG ⟨4, .data⟩ (by simp) rfl 22 rfl
      obtain ⟨ev, hev⟩ : ∃ ev, a'.eval = ev := ⟨_, rfl⟩
      rw [hev] at g22 ⊢
      clear hev hG hk
      have e1 := cW X hB
      exact .inr ⟨rfl, .inl ⟨.bool false, X, by clear hs; go_simp, Below.refl _ _, rfl⟩⟩
    | 6, ho =>
      obtain rfl : _ = o := Option.some.inj ho
      obtain rfl : 24 = d := Option.some.inj hd
      have g0 : a'.eval (.tmp 0) = .pointer (some ⟨tb, 0, none⟩) := hk 0 (by kernel_rfl)
      have gg : a'.eval (.tmp 23) = .bool false := hG ⟨5, .guard⟩ (by simp) rfl 23 rfl
      refine .inr ⟨want_yes (n := 83) (d := 23) rfl hs (by decide) rfl gg, .inl ⟨.pointer (some ⟨tb, 0, none⟩), X, ?_, Below.refl _ _, rfl⟩⟩
      obtain ⟨ev, hev⟩ : ∃ ev, a'.eval = ev := ⟨_, rfl⟩
      rw [hev] at g0 ⊢
      clear hev hG hk hs gg
      have e1 := cW X hB
      go_simp
    | 7, ho =>
      obtain rfl : _ = o := Option.some.inj ho
      obtain rfl : 25 = d := Option.some.inj hd
      have g24 : a'.eval (.tmp 24) = .pointer (some ⟨tb, 0, none⟩) := hG ⟨6, .data⟩ (by simp) rfl 24 rfl
      have gg : a'.eval (.tmp 23) = .bool false := hG ⟨5, .guard⟩ (by simp) rfl 23 rfl
      refine .inr ⟨want_yes (n := 83) (d := 23) rfl hs (by decide) rfl gg, .inr ⟨13, #[.pointer (some ⟨tb, 0, none⟩)], ?_, ?_⟩⟩
      · have gF : a'.eval (.func 13) = .func (.func 13) #[] #[] := rfl
        obtain ⟨ev, hev⟩ : ∃ ev, a'.eval = ev := ⟨_, rfl⟩
        rw [hev] at gF g24 ⊢
        exact exec_call1 rfl gF g24 (enters_of Try.func13 (by kernel_rfl) rfl)
      · exact (len_x (H1.out.hx.below hB) L.length H1.out.len).mono fun e W' ⟨he, hb⟩ => ⟨_, he, by rw [hb]; exact Below.refl _ _, rfl⟩
    | 8, ho =>
      obtain rfl : _ = o := Option.some.inj ho
      obtain rfl : 26 = d := Option.some.inj hd
      have g1 : a'.eval (.tmp 1) = .pointer (some ⟨rb, 0, none⟩) := hk 1 (by kernel_rfl)
      have gg : a'.eval (.tmp 23) = .bool false := hG ⟨5, .guard⟩ (by simp) rfl 23 rfl
      refine .inr ⟨want_yes (n := 83) (d := 23) rfl hs (by decide) rfl gg, .inl ⟨.pointer (some ⟨rb, 0, none⟩), X, ?_, Below.refl _ _, rfl⟩⟩
      obtain ⟨ev, hev⟩ : ∃ ev, a'.eval = ev := ⟨_, rfl⟩
      rw [hev] at g1 ⊢
      clear hev hG hk hs gg
      have e1 := cW X hB
      go_simp
    | 9, ho =>
      obtain rfl : _ = o := Option.some.inj ho
      obtain rfl : 27 = d := Option.some.inj hd
      have g26 : a'.eval (.tmp 26) = .pointer (some ⟨rb, 0, none⟩) := hG ⟨8, .data⟩ (by simp) rfl 26 rfl
      have gg : a'.eval (.tmp 23) = .bool false := hG ⟨5, .guard⟩ (by simp) rfl 23 rfl
      refine .inr ⟨want_yes (n := 83) (d := 23) rfl hs (by decide) rfl gg, .inl ⟨.pointer (some ⟨rb, 0, none⟩), X, ?_, Below.refl _ _, rfl⟩⟩
      obtain ⟨ev, hev⟩ : ∃ ev, a'.eval = ev := ⟨_, rfl⟩
      rw [hev] at g26 ⊢
      clear hev hG hk hs gg
      have e1 := cW X hB
      go_simp
    | 10, ho =>
      obtain rfl : _ = o := Option.some.inj ho
      obtain rfl : 28 = d := Option.some.inj hd
      have g27 : a'.eval (.tmp 27) = .pointer (some ⟨rb, 0, none⟩) := hG ⟨9, .data⟩ (by simp) rfl 27 rfl
      have gg : a'.eval (.tmp 23) = .bool false := hG ⟨5, .guard⟩ (by simp) rfl 23 rfl
      refine .inr ⟨want_yes (n := 83) (d := 23) rfl hs (by decide) rfl gg, .inl ⟨.pointer (some ⟨rb, 1, none⟩), X, ?_, Below.refl _ _, rfl⟩⟩
      obtain ⟨ev, hev⟩ : ∃ ev, a'.eval = ev := ⟨_, rfl⟩
      rw [hev] at g27 ⊢
      clear hev hG hk hs gg
      have e1 := cW X hB
      go_simp
    | 11, ho =>
      obtain rfl : _ = o := Option.some.inj ho
      obtain rfl : 29 = d := Option.some.inj hd
      have g28 : a'.eval (.tmp 28) = .pointer (some ⟨rb, 1, none⟩) := hG ⟨10, .data⟩ (by simp) rfl 28 rfl
      have gg : a'.eval (.tmp 23) = .bool false := hG ⟨5, .guard⟩ (by simp) rfl 23 rfl
      refine .inr ⟨want_yes (n := 83) (d := 23) rfl hs (by decide) rfl gg, .inl ⟨.slice (some ⟨g, 0, none⟩) L.length cap, X, ?_, Below.refl _ _, rfl⟩⟩
      obtain ⟨ev, hev⟩ : ∃ ev, a'.eval = ev := ⟨_, rfl⟩
      rw [hev] at g28 ⊢
      clear hev hG hk hs gg
      have e1 := cW X hB
      go_simp
    | 12, ho =>
      obtain rfl : _ = o := Option.some.inj ho
      obtain rfl : 30 = d := Option.some.inj hd
      have g29 : a'.eval (.tmp 29) = .slice (some ⟨g, 0, none⟩) L.length cap := hG ⟨11, .data⟩ (by simp) rfl 29 rfl
      have gg : a'.eval (.tmp 23) = .bool false := hG ⟨5, .guard⟩ (by simp) rfl 23 rfl
      refine .inr ⟨want_yes (n := 83) (d := 23) rfl hs (by decide) rfl gg, .inl ⟨.int .i64 L.length, X, ?_, Below.refl _ _, rfl⟩⟩
      obtain ⟨ev, hev⟩ : ∃ ev, a'.eval = ev := ⟨_, rfl⟩
      rw [hev] at g29 ⊢
      clear hev hG hk hs gg
      have e1 := cW X hB
      go_simp
    | 13, ho =>
      obtain rfl : _ = o := Option.some.inj ho
      obtain rfl : 31 = d := Option.some.inj hd
      have g25 : a'.eval (.tmp 25) = .int .i64 L.length := hG ⟨7, .data⟩ (by simp) rfl 25 rfl
      have g30 : a'.eval (.tmp 30) = .int .i64 L.length := hG ⟨12, .data⟩ (by simp) rfl 30 rfl
      have gg : a'.eval (.tmp 23) = .bool false := hG ⟨5, .guard⟩ (by simp) rfl 23 rfl
      refine .inr ⟨want_yes (n := 83) (d := 23) rfl hs (by decide) rfl gg, .inl ⟨.bool false, X, ?_, Below.refl _ _, rfl⟩⟩
      obtain ⟨ev, hev⟩ : ∃ ev, a'.eval = ev := ⟨_, rfl⟩
      rw [hev] at g25 g30 ⊢
      clear hev hG hk hs gg
      have e1 := cW X hB
      go_simp
    | 14, ho =>
      obtain rfl : _ = o := Option.some.inj ho
      obtain rfl : 32 = d := Option.some.inj hd
      have g23 : a'.eval (.tmp 23) = .bool false := hG ⟨5, .data⟩ (by simp) rfl 23 rfl
      have g31 : a'.eval (.tmp 31) = .bool false := hG ⟨13, .data⟩ (by simp) rfl 31 rfl
      have k0 : a'.eval (.const (.bool true)) = (.bool true) := rfl
      obtain ⟨ev, hev⟩ : ∃ ev, a'.eval = ev := ⟨_, rfl⟩
      rw [hev] at g23 g31 k0 ⊢
      clear hev hG hk
      have e1 := cW X hB
      exact .inr ⟨rfl, .inl ⟨.bool false, X, by clear hs; go_simp, Below.refl _ _, rfl⟩⟩
    | j + 15, ho => simp at ho
  · intro a' X hB hs hdf hk hG
    obtain ⟨tm, df⟩ := a'
    obtain rfl : df = [] := hdf
    have e0 : tm.getD 0 undef = .pointer (some ⟨tb, 0, none⟩) := hk 0 (by kernel_rfl)
    have e1 : tm.getD 1 undef = .pointer (some ⟨rb, 0, none⟩) := hk 1 (by kernel_rfl)
    have e2 : tm.getD 2 undef = undef := hk 2 (by kernel_rfl)
    have e3 : tm.getD 3 undef = undef := hk 3 (by kernel_rfl)
    have e4 : tm.getD 4 undef = .bool false := hk 4 (by kernel_rfl)
    have e5 : tm.getD 5 undef = .slice p1 l.length c1 := hk 5 (by kernel_rfl)
    have e6 : tm.getD 6 undef = undef := hk 6 (by kernel_rfl)
    have e7 : tm.getD 7 undef = undef := hk 7 (by kernel_rfl)
    have e8 : tm.getD 8 undef = undef := hk 8 (by kernel_rfl)
    have e9 : tm.getD 9 undef = undef := hk 9 (by kernel_rfl)
    have e10 : tm.getD 10 undef = undef := hk 10 (by kernel_rfl)
    have e11 : tm.getD 11 undef = undef := hk 11 (by kernel_rfl)
    have e12 : tm.getD 12 undef = undef := hk 12 (by kernel_rfl)
    have e13 : tm.getD 13 undef = undef := hk 13 (by kernel_rfl)
    have e14 : tm.getD 14 undef = undef := hk 14 (by kernel_rfl)
    have e15 : tm.getD 15 undef = undef := hk 15 (by kernel_rfl)
    have e16 : tm.getD 16 undef = .pointer (some ⟨tb, 0, none⟩) := hk 16 (by kernel_rfl)
    have e17 : tm.getD 17 undef = .slice p1 l.length c1 := hk 17 (by kernel_rfl)
    have e33 : tm.getD 33 undef = undef := hk 33 (by kernel_rfl)
    have e34 : tm.getD 34 undef = undef := hk 34 (by kernel_rfl)
    have e35 : tm.getD 35 undef = undef := hk 35 (by kernel_rfl)
    have e36 : tm.getD 36 undef = undef := hk 36 (by kernel_rfl)
    have e37 : tm.getD 37 undef = undef := hk 37 (by kernel_rfl)
    have e38 : tm.getD 38 undef = undef := hk 38 (by kernel_rfl)
    have e39 : tm.getD 39 undef = undef := hk 39 (by kernel_rfl)
    have e40 : tm.getD 40 undef = undef := hk 40 (by kernel_rfl)
    have e41 : tm.getD 41 undef = undef := hk 41 (by kernel_rfl)
    have e42 : tm.getD 42 undef = undef := hk 42 (by kernel_rfl)
    have e43 : tm.getD 43 undef = undef := hk 43 (by kernel_rfl)
    have e44 : tm.getD 44 undef = undef := hk 44 (by kernel_rfl)
    have e45 : tm.getD 45 undef = undef := hk 45 (by kernel_rfl)
    have e46 : tm.getD 46 undef = undef := hk 46 (by kernel_rfl)
    have e47 : tm.getD 47 undef = undef := hk 47 (by kernel_rfl)
    have e48 : tm.getD 48 undef = undef := hk 48 (by kernel_rfl)
    have e49 : tm.getD 49 undef = undef := hk 49 (by kernel_rfl)
    have e50 : tm.getD 50 undef = undef := hk 50 (by kernel_rfl)
    have e51 : tm.getD 51 undef = undef := hk 51 (by kernel_rfl)
    have e52 : tm.getD 52 undef = undef := hk 52 (by kernel_rfl)
    have e53 : tm.getD 53 undef = undef := hk 53 (by kernel_rfl)
    have e54 : tm.getD 54 undef = undef := hk 54 (by kernel_rfl)
    have e55 : tm.getD 55 undef = undef := hk 55 (by kernel_rfl)
    have e56 : tm.getD 56 undef = undef := hk 56 (by kernel_rfl)
    have e57 : tm.getD 57 undef = undef := hk 57 (by kernel_rfl)
    have e58 : tm.getD 58 undef = undef := hk 58 (by kernel_rfl)
    have e59 : tm.getD 59 undef = undef := hk 59 (by kernel_rfl)
    have e60 : tm.getD 60 undef = undef := hk 60 (by kernel_rfl)
    have e61 : tm.getD 61 undef = undef := hk 61 (by kernel_rfl)
    have e62 : tm.getD 62 undef = undef := hk 62 (by kernel_rfl)
    have e63 : tm.getD 63 undef = undef := hk 63 (by kernel_rfl)
    have e64 : tm.getD 64 undef = undef := hk 64 (by kernel_rfl)
    have e65 : tm.getD 65 undef = undef := hk 65 (by kernel_rfl)
    have e66 : tm.getD 66 undef = undef := hk 66 (by kernel_rfl)
    have e67 : tm.getD 67 undef = undef := hk 67 (by kernel_rfl)
    have e68 : tm.getD 68 undef = undef := hk 68 (by kernel_rfl)
    have e69 : tm.getD 69 undef = undef := hk 69 (by kernel_rfl)
    have e70 : tm.getD 70 undef = undef := hk 70 (by kernel_rfl)
    have e71 : tm.getD 71 undef = undef := hk 71 (by kernel_rfl)
    have e72 : tm.getD 72 undef = undef := hk 72 (by kernel_rfl)
    have e73 : tm.getD 73 undef = undef := hk 73 (by kernel_rfl)
    have e74 : tm.getD 74 undef = undef := hk 74 (by kernel_rfl)
    have e75 : tm.getD 75 undef = undef := hk 75 (by kernel_rfl)
    have e76 : tm.getD 76 undef = undef := hk 76 (by kernel_rfl)
    have e77 : tm.getD 77 undef = undef := hk 77 (by kernel_rfl)
    have e78 : tm.getD 78 undef = undef := hk 78 (by kernel_rfl)
    have e79 : tm.getD 79 undef = undef := hk 79 (by kernel_rfl)
    have e80 : tm.getD 80 undef = undef := hk 80 (by kernel_rfl)
    have e81 : tm.getD 81 undef = undef := hk 81 (by kernel_rfl)
    have e82 : tm.getD 82 undef = undef := hk 82 (by kernel_rfl)
    have g18 : (tm.getD 18 undef) = .slice p1 l.length c1 := hG 0 18 (by decide) rfl
    have g19 : (tm.getD 19 undef) = .pointer (some ⟨rb, 0, none⟩) := hG 1 19 (by decide) rfl
    have g20 : IRV l ((tm.getD 20 undef)) X := hG 2 20 (by decide) rfl
    have g21 : (tm.getD 21 undef) = .bool true := hG 3 21 (by decide) rfl
    have g22 : (tm.getD 22 undef) = .bool false := hG 4 22 (by decide) rfl
    have g23 : (tm.getD 23 undef) = .bool false := hG 5 23 (by decide) rfl
    have g24 : (tm.getD 24 undef) = .pointer (some ⟨tb, 0, none⟩) := hG 6 24 (by decide) rfl
    have g25 : (tm.getD 25 undef) = .int .i64 L.length := hG 7 25 (by decide) rfl
    have g26 : (tm.getD 26 undef) = .pointer (some ⟨rb, 0, none⟩) := hG 8 26 (by decide) rfl
    have g27 : (tm.getD 27 undef) = .pointer (some ⟨rb, 0, none⟩) := hG 9 27 (by decide) rfl
    have g28 : (tm.getD 28 undef) = .pointer (some ⟨rb, 1, none⟩) := hG 10 28 (by decide) rfl
    have g29 : (tm.getD 29 undef) = .slice (some ⟨g, 0, none⟩) L.length cap := hG 11 29 (by decide) rfl
    have g30 : (tm.getD 30 undef) = .int .i64 L.length := hG 12 30 (by decide) rfl
    have g31 : (tm.getD 31 undef) = .bool false := hG 13 31 (by decide) rfl
    have g32 : (tm.getD 32 undef) = .bool false := hG 14 32 (by decide) rfl
    have htm := arr_of tm ((.pointer (some ⟨tb, 0, none⟩) : Value) :: (.pointer (some ⟨rb, 0, none⟩) : Value) :: (undef : Value) :: (undef : Value) :: (.bool false : Value) :: (.slice p1 l.length c1 : Value) :: (undef : Value) :: (undef : Value) :: (undef : Value) :: (undef : Value) :: (undef : Value) :: (undef : Value) :: (undef : Value) :: (undef : Value) :: (undef : Value) :: (undef : Value) :: (.pointer (some ⟨tb, 0, none⟩) : Value) :: (.slice p1 l.length c1 : Value) :: (tm.getD 18 undef : Value) :: (tm.getD 19 undef : Value) :: (tm.getD 20 undef : Value) :: (tm.getD 21 undef : Value) :: (tm.getD 22 undef : Value) :: (tm.getD 23 undef : Value) :: (tm.getD 24 undef : Value) :: (tm.getD 25 undef : Value) :: (tm.getD 26 undef : Value) :: (tm.getD 27 undef : Value) :: (tm.getD 28 undef : Value) :: (tm.getD 29 undef : Value) :: (tm.getD 30 undef : Value) :: (tm.getD 31 undef : Value) :: (tm.getD 32 undef : Value) :: (undef : Value) :: (undef : Value) :: (undef : Value) :: (undef : Value) :: (undef : Value) :: (undef : Value) :: (undef : Value) :: (undef : Value) :: (undef : Value) :: (undef : Value) :: (undef : Value) :: (undef : Value) :: (undef : Value) :: (undef : Value) :: (undef : Value) :: (undef : Value) :: (undef : Value) :: (undef : Value) :: (undef : Value) :: (undef : Value) :: (undef : Value) :: (undef : Value) :: (undef : Value) :: (undef : Value) :: (undef : Value) :: (undef : Value) :: (undef : Value) :: (undef : Value) :: (undef : Value) :: (undef : Value) :: (undef : Value) :: (undef : Value) :: (undef : Value) :: (undef : Value) :: (undef : Value) :: (undef : Value) :: (undef : Value) :: (undef : Value) :: (undef : Value) :: (undef : Value) :: (undef : Value) :: (undef : Value) :: (undef : Value) :: (undef : Value) :: (undef : Value) :: (undef : Value) :: (undef : Value) :: (undef : Value) :: (undef : Value) :: (undef : Value) :: []) hs (by show (tm.getD 0 undef :: tm.getD 1 undef :: tm.getD 2 undef :: tm.getD 3 undef :: tm.getD 4 undef :: tm.getD 5 undef :: tm.getD 6 undef :: tm.getD 7 undef :: tm.getD 8 undef :: tm.getD 9 undef :: tm.getD 10 undef :: tm.getD 11 undef :: tm.getD 12 undef :: tm.getD 13 undef :: tm.getD 14 undef :: tm.getD 15 undef :: tm.getD 16 undef :: tm.getD 17 undef :: tm.getD 18 undef :: tm.getD 19 undef :: tm.getD 20 undef :: tm.getD 21 undef :: tm.getD 22 undef :: tm.getD 23 undef :: tm.getD 24 undef :: tm.getD 25 undef :: tm.getD 26 undef :: tm.getD 27 undef :: tm.getD 28 undef :: tm.getD 29 undef :: tm.getD 30 undef :: tm.getD 31 undef :: tm.getD 32 undef :: tm.getD 33 undef :: tm.getD 34 undef :: tm.getD 35 undef :: tm.getD 36 undef :: tm.getD 37 undef :: tm.getD 38 undef :: tm.getD 39 undef :: tm.getD 40 undef :: tm.getD 41 undef :: tm.getD 42 undef :: tm.getD 43 undef :: tm.getD 44 undef :: tm.getD 45 undef :: tm.getD 46 undef :: tm.getD 47 undef :: tm.getD 48 undef :: tm.getD 49 undef :: tm.getD 50 undef :: tm.getD 51 undef :: tm.getD 52 undef :: tm.getD 53 undef :: tm.getD 54 undef :: tm.getD 55 undef :: tm.getD 56 undef :: tm.getD 57 undef :: tm.getD 58 undef :: tm.getD 59 undef :: tm.getD 60 undef :: tm.getD 61 undef :: tm.getD 62 undef :: tm.getD 63 undef :: tm.getD 64 undef :: tm.getD 65 undef :: tm.getD 66 undef :: tm.getD 67 undef :: tm.getD 68 undef :: tm.getD 69 undef :: tm.getD 70 undef :: tm.getD 71 undef :: tm.getD 72 undef :: tm.getD 73 undef :: tm.getD 74 undef :: tm.getD 75 undef :: tm.getD 76 undef :: tm.getD 77 undef :: tm.getD 78 undef :: tm.getD 79 undef :: tm.getD 80 undef :: tm.getD 81 undef :: tm.getD 82 undef :: []) = _; rw [e0, e1, e2, e3, e4, e5, e6, e7, e8, e9, e10, e11, e12, e13, e14, e15, e16, e17, e33, e34, e35, e36, e37, e38, e39, e40, e41, e42, e43, e44, e45, e46, e47, e48, e49, e50, e51, e52, e53, e54, e55, e56, e57, e58, e59, e60, e61, e62, e63, e64, e65, e66, e67, e68, e69, e70, e71, e72, e73, e74, e75, e76, e77, e78, e79, e80, e81, e82]; try rfl)
    clear hs hk hG e0 e1 e2 e3 e4 e5 e6 e7 e8 e9 e10 e11 e12 e13 e14 e15 e16 e17 e33 e34 e35 e36 e37 e38 e39 e40 e41 e42 e43 e44 e45 e46 e47 e48 e49 e50 e51 e52 e53 e54 e55 e56 e57 e58 e59 e60 e61 e62 e63 e64 e65 e66 e67 e68 e69 e70 e71 e72 e73 e74 e75 e76 e77 e78 e79 e80 e81 e82
    generalize tm.getD 18 undef = t18 at htm g18
    generalize tm.getD 19 undef = t19 at htm g19
    generalize tm.getD 20 undef = t20 at htm g20
    generalize tm.getD 21 undef = t21 at htm g21
    generalize tm.getD 22 undef = t22 at htm g22
    generalize tm.getD 23 undef = t23 at htm g23
    generalize tm.getD 24 undef = t24 at htm g24
    generalize tm.getD 25 undef = t25 at htm g25
    generalize tm.getD 26 undef = t26 at htm g26
    generalize tm.getD 27 undef = t27 at htm g27
    generalize tm.getD 28 undef = t28 at htm g28
    generalize tm.getD 29 undef = t29 at htm g29
    generalize tm.getD 30 undef = t30 at htm g30
    generalize tm.getD 31 undef = t31 at htm g31
    generalize tm.getD 32 undef = t32 at htm g32
    subst htm
    subst g18
    subst g19
    subst g21
    subst g22
    subst g23
    subst g24
    subst g25
    subst g26
    subst g27
    subst g28
    subst g29
    subst g30
    subst g31
    subst g32
    simp only [List.drop_succ_cons, List.drop_zero]
    clear g20
    have HX0 : Hid (Below w.heap.size w X) := HB1.out.trans (hB.mono HB1.out.size)
    have HIX := Lib.hid (HI1.out.below hB)
    have HBoX := Lib.hid (H1.out.below hB)
    clear hB cW
    go_wp2_with fail
    go_loopw [35] (fun y wr => ∃ k : Nat, y = .int .i64 k ∧ k ≤ l.length ∧ Below X.heap.size X wr) (fun y _ => (l.length - (RowKit.intOf y).toNat))
    case atStart => exact ⟨0, rfl, Nat.zero_le _, Below.refl _ _⟩
    case round =>
      obtain ⟨k, rfl, hk, hBr⟩ := hrel
      obtain ⟨W1, rfl⟩ : ∃ W1, W1 = wr := ⟨wr, rfl⟩
      by_cases hlt : k < l.length
      · have hki : (k : Int) < (l.length : Int) := by omega
        obtain ⟨b, off, e0, hbl, hcl⟩ := (HIX.out.below hBr) k hlt
        obtain ⟨o, ho⟩ := (HIS.out.2 l[k]).1 (List.getElem_mem hlt)
        obtain ⟨K, hinv⟩ := HBoX.out.inv
        have hgo := hinv.ok _ _ ho
        have h64 := ct_i64 hgo.ct
        have hel : o.ents.length ≤ 4096 := Nat.le_trans (hinv.elen ho) hinv.len
        have hcat := hgo.cat
        have hlS : (listS S l[k]).length < 1000000 := by
          unfold listS; rw [ho]; dsimp only
          split
          · omega
          · simp
        have HIx : Hid (∀ W, Below X.heap.size X W → Calls Try.prog 28 #[.pointer (some ⟨tb, 0, none⟩), .int .i64 l[k]] W fun e w' => ∃ p cap, e = .returned (.tuple #[.agg #[.int .i64 o.id, .int .i64 o.kind, .int .i64 o.quota, .int .i64 o.used, .int .i64 o.links, .int .i64 o.df, .slice p o.cats.length cap], .bool true]) ∧ CatsAt w' p o.cats ∧ Below W.heap.size W w') := fun W hb => info_x (HBoX.out.below hb).hx l[k] o ho
        have HIr : Hid (∀ W, Below X.heap.size X W → Calls Try.prog 29 #[.pointer (some ⟨rb, 0, none⟩), .int .i64 l[k]] W fun e w' => ∃ p c, e = .returned (.tuple #[.agg #[.int .i64 o.id, .int .i64 o.kind, .int .i64 o.quota, .int .i64 o.used, .int .i64 o.links, .int .i64 o.df, .slice p o.cats.length c], .bool true]) ∧ CatsAt w' p o.cats ∧ Below W.heap.size W w') := fun W hb => rInfo_some (HBoX.out.below hb).rs HBoX.out.rel hinv l[k] ho
        have HLx : Hid (∀ W, Below X.heap.size X W → Calls Try.prog 35 #[.pointer (some ⟨tb, 0, none⟩), .int .i64 l[k]] W fun e w' => ∃ p c, e = .returned (.tuple #[.slice p (listS S l[k]).length c, .int .i64 (contS S l[k])]) ∧ IntsAt w' p (listS S l[k]) ∧ Below W.heap.size W w') := fun W hb => list_x (HBoX.out.below hb).hx l[k] h64
        have HLr : Hid (∀ W, Below X.heap.size X W → Calls Try.prog 36 #[.pointer (some ⟨rb, 0, none⟩), .int .i64 l[k]] W fun e w' => ∃ p c, e = .returned (.tuple #[.slice p (listS S l[k]).length c, .int .i64 (contS S l[k])]) ∧ IntsAt W p (listS S l[k]) ∧ w' = W) := fun W hb => rList_any (HBoX.out.below hb).rs HBoX.out.rel l[k]
        generalize listS S l[k] = ls at HLx HLr hlS
        generalize contS S l[k] = ec at HLx HLr
        generalize l[k] = id at hcl HIx HIr HLx HLr
        subst e0
        clear ho hinv hgo h64 hel
        go_wp2_with (go_at_call 28; with_reducible refine Calls.mono (HIx.out _ hBr) ?_; rintro e w2 ⟨p2, c2, rfl, hc2, hb2⟩; refine Hid.out ?_)
        refine Lib.hid ?_
        obtain ⟨W3, hW3⟩ : ∃ W3, w2.alloc (.cells #[.int .i64 o.id, .int .i64 o.kind, .int .i64 o.quota, .int .i64 o.used, .int .i64 o.links, .int .i64 o.df, .slice p2 o.cats.length c2] 50) = W3 := ⟨_, rfl⟩
        have b3 : Below w2.heap.size w2 W3 := by rw [← hW3]; exact (Below.refl _ _).alloc (Nat.le_refl _) _
        have blk3 : W3.heap[w2.heap.size]? = some (.cells #[.int .i64 o.id, .int .i64 o.kind, .int .i64 o.quota, .int .i64 o.used, .int .i64 o.links, .int .i64 o.df, .slice p2 o.cats.length c2] 50 (0, 0)) := by rw [← hW3]; exact heap_new _ _
        have hBr3 : Below X.heap.size X W3 := (hBr.trans (hb2.mono hBr.size)).trans (b3.mono (hBr.trans (hb2.mono hBr.size)).size)
        have HC3 := Lib.hid (hc2.below b3)
        have HK3 := Lib.hid blk3
        clear hc2 hb2 b3 blk3 hcl
        go_wp2_with (go_at_call 29; with_reducible refine Calls.mono (HIr.out _ hBr3) ?_; rintro e w4 ⟨p4, c4, rfl, hc4, hb4⟩; refine Hid.out ?_)
        refine Lib.hid ?_
        obtain ⟨W5, hW5⟩ : ∃ W5, w4.alloc (.cells #[.int .i64 o.id, .int .i64 o.kind, .int .i64 o.quota, .int .i64 o.used, .int .i64 o.links, .int .i64 o.df, .slice p4 o.cats.length c4] 50) = W5 := ⟨_, rfl⟩
        have b5 : Below w4.heap.size w4 W5 := by rw [← hW5]; exact (Below.refl _ _).alloc (Nat.le_refl _) _
        have blk5 : W5.heap[w4.heap.size]? = some (.cells #[.int .i64 o.id, .int .i64 o.kind, .int .i64 o.quota, .int .i64 o.used, .int .i64 o.links, .int .i64 o.df, .slice p4 o.cats.length c4] 50 (0, 0)) := by rw [← hW5]; exact heap_new _ _
        have b35 : Below W3.heap.size W3 W5 := hb4.trans (b5.mono hb4.size)
        have hBr5 : Below X.heap.size X W5 := hBr3.trans (b35.mono hBr3.size)
        have HC5 := Lib.hid (hc4.below b5)
        have HC35 := Lib.hid (HC3.out.below b35)
        have HK5 := Lib.hid blk5
        have HK35 := Lib.hid ((b35.block _ (heap_lt HK3.out)).trans HK3.out)
        clear hc4 hb4 b5 blk5 b35 HC3 HK3
        go_wp2_with (go_at_call 35; with_reducible refine Calls.mono (HLx.out _ hBr5) ?_; rintro e w6 ⟨p6, c6, rfl, hI6, hb6⟩; refine Hid.out ?_)
        refine Lib.hid ?_
        have hBr6 : Below X.heap.size X w6 := hBr5.trans (hb6.mono hBr5.size)
        have HI6 := Lib.hid hI6
        have HB6 := Lib.hid hb6
        clear hI6 hb6
        go_wp2_with (go_at_call 36; with_reducible refine Calls.mono (HLr.out _ hBr6) ?_; rintro e w7 ⟨p7, c7, rfl, hI7, hw7⟩; rw [hw7]; clear hw7 w7; refine Hid.out ?_)
        refine Lib.hid ?_
        have HI7 := Lib.hid hI7
        have k5 := (HB6.out.block _ (heap_lt HK5.out)).trans HK5.out
        have k3 := (HB6.out.block _ (heap_lt HK35.out)).trans HK35.out
        have hS := SameInfo_eq o p2 p4 c2 c4 w6 hcat (HC35.out.below HB6.out) (HC5.out.below HB6.out)
        have HSI := Lib.hid hS
        have x0 : w6.cell? ⟨w2.heap.size, 0, none⟩ = some (.int .i64 o.id) := by simp [World.cell?, k3]
        have x1 : w6.cell? ⟨w2.heap.size, 1, none⟩ = some (.int .i64 o.kind) := by simp [World.cell?, k3]
        have x2 : w6.cell? ⟨w2.heap.size, 2, none⟩ = some (.int .i64 o.quota) := by simp [World.cell?, k3]
        have x3 : w6.cell? ⟨w2.heap.size, 3, none⟩ = some (.int .i64 o.used) := by simp [World.cell?, k3]
        have x4 : w6.cell? ⟨w2.heap.size, 4, none⟩ = some (.int .i64 o.links) := by simp [World.cell?, k3]
        have x5 : w6.cell? ⟨w2.heap.size, 5, none⟩ = some (.int .i64 o.df) := by simp [World.cell?, k3]
        have x6 : w6.cell? ⟨w2.heap.size, 6, none⟩ = some (.slice p2 o.cats.length c2) := by simp [World.cell?, k3]
        have y0 : w6.cell? ⟨w4.heap.size, 0, none⟩ = some (.int .i64 o.id) := by simp [World.cell?, k5]
        have y1 : w6.cell? ⟨w4.heap.size, 1, none⟩ = some (.int .i64 o.kind) := by simp [World.cell?, k5]
        have y2 : w6.cell? ⟨w4.heap.size, 2, none⟩ = some (.int .i64 o.quota) := by simp [World.cell?, k5]
        have y3 : w6.cell? ⟨w4.heap.size, 3, none⟩ = some (.int .i64 o.used) := by simp [World.cell?, k5]
        have y4 : w6.cell? ⟨w4.heap.size, 4, none⟩ = some (.int .i64 o.links) := by simp [World.cell?, k5]
        have y5 : w6.cell? ⟨w4.heap.size, 5, none⟩ = some (.int .i64 o.df) := by simp [World.cell?, k5]
        have y6 : w6.cell? ⟨w4.heap.size, 6, none⟩ = some (.slice p4 o.cats.length c4) := by simp [World.cell?, k5]
        clear hS k3 k5 hI7
        go_wp2_with (go_at_call 30; with_reducible refine Calls.mono HSI.out ?_; rintro e w8 ⟨rfl, hb8⟩; refine Hid.out ?_)
        refine Lib.hid ?_
        have HB8 := Lib.hid hb8
        have HSS := Lib.hid (SameInts_irv (w := w8) (l := ls) (u := .slice p6 ls.length c6) (v := .slice p7 ls.length c7) ⟨p6, c6, rfl, HI6.out.below hb8⟩ ⟨p7, c7, rfl, HI7.out.below hb8⟩ hlS)
        clear hb8 x0 x1 x2 x3 x4 x5 x6 y0 y1 y2 y3 y4 y5 y6
        go_wp2_with (go_at_call 22; with_reducible refine Calls.mono HSS.out ?_; rintro e w9 ⟨rfl, hb9⟩; have HB9 := Lib.hid hb9; clear hb9)
        go_roundw
        case rel => exact ⟨k + 1, by go_num, by omega, (hBr6.trans (HB8.out.mono hBr6.size)).trans (HB9.out.mono (hBr6.trans (HB8.out.mono hBr6.size)).size)⟩
        case measure => simp [RowKit.intOf]; omega
      · have hkk : ¬ (k : Int) < (l.length : Int) := by omega
        go_wp2_with fail
        go_ret
        exact ⟨rfl, HX0.out.trans (hBr.mono HX0.out.size)⟩
end
end Go.Proofs.Ytebcnlhgkpaghaa
namespace Go.Proofs.Ytebcnlhgkpaghaa
open Go.RowKit Go.Sort
def backT (ops : Array Oper) : Bool := (List.range ops.size).all fun i => match ops[i]? with | some o => o.after.all (fun e => !(Region.binds .any e) || decide (e.on < i)) | none => true
theorem backT_lt {ops : Array Oper} (hb : backT ops = true) {i : Nat} {o : Oper} (ho : ops[i]? = some o) {e : _} (he : e ∈ o.after) (hbd : Region.binds .any e = true) : e.on < i := by
  have h1 := List.all_eq_true.1 hb i (List.mem_range.2 (Array.getElem?_eq_some_iff.1 ho).1)
  rw [ho] at h1
  have := Array.all_eq_true_iff_forall_mem.1 h1 e he
  rw [hbd] at this
  simpa using this
/-- Where nothing is ready all is done. -/
theorem ready_nil_allT {ops : Array Oper} {li : Array Bool} (hb : backT ops = true) (hs : li.size = ops.size) (h : Region.ready .any ops li = []) : ∀ (n i : Nat), i ≤ n → i < ops.size → li.getD i false = true := by
  intro n
  induction n with
  | zero =>
    intro i hi hlt
    obtain rfl : i = 0 := by omega
    by_cases hu : li.getD 0 true = false
    · have : 0 ∈ Region.ready .any ops li := mem_ready.2 ⟨hu, ops[0], Array.getElem?_eq_getElem hlt, fun e he hbd => by
        have := backT_lt hb (Array.getElem?_eq_getElem hlt) he hbd
        omega⟩
      rw [h] at this; cases this
    · have hl : 0 < li.size := by omega
      simp [Array.getD_eq_getD_getElem?, Array.getElem?_eq_getElem hl] at hu ⊢; exact hu
  | succ n ih =>
    intro i hi hlt
    by_cases hu : li.getD i true = false
    · have : i ∈ Region.ready .any ops li := mem_ready.2 ⟨hu, ops[i], Array.getElem?_eq_getElem hlt, fun e he hbd => by
        have := backT_lt hb (Array.getElem?_eq_getElem hlt) he hbd
        exact ih e.on (by omega) (by omega)⟩
      rw [h] at this; cases this
    · have hl : i < li.size := by omega
      simp [Array.getD_eq_getD_getElem?, Array.getElem?_eq_getElem hl] at hu ⊢; exact hu
section
variable {P : Program}
/-- The law of Ph, for regions whose results are assigned at once. -/
theorem wp_region_phT {l : List Oper} {id : Nat} {Q : Exit → Act → World → Prop} {a : Act} {w : World} (f c1 c2 : Nat) (R : World → World → Prop) (J : Nat → World → Prop) (G : Nat → Value → World → Prop)
    (hm : P.follows .mixedOrders = true) (hback : backT l.toArray = true) (hdst : dstB l.toArray a.tmps.size = true) (hneed : needB l.toArray f c2 c1 = true) (hc2 : c2 < l.length) (hc12 : c1 ≠ c2)
    (hRb : ∀ W W', Below W.heap.size W W' → R W W') (hRt : ∀ A B C, R A B → R B C → R A C)
    (hJ : ∀ p W W', J p W → Below W.heap.size W W' → J p W') (hJ0 : J 0 { w with drawn := w.drawn + 1 })
    (hmono : ∀ k v W W', G k v W → R W W' → G k v W')
    (hstep : ∀ (a' : Act) (W : World) (p : Nat), J p W → R w W → a'.tmps.size = a.tmps.size → (∀ k, (dsts l.toArray).contains k = false → a'.eval (.tmp k) = a.eval (.tmp k)) →
      ∀ (i : Nat) (o : Oper) (d : Nat), l[i]? = some o → o.dst = some d → (i = c1 → p = 0) → (i = c2 → p = 1) →
      (∀ e ∈ o.after, Region.binds .any e = true → ∀ d', (l[e.on]?).bind (·.dst) = some d' → G d' (a'.eval (.tmp d')) W) →
      Region.wanted o (yielded l.toArray a'.tmps) = true ∧ ((∃ v W', (execOp a'.eval o).run P W = .ok (.value v) W' ∧ (Below W.heap.size W W' ∧ i ≠ c1 ∧ i ≠ c2) ∧ G d v W') ∨
        (∃ f args, (execOp a'.eval o).run P W = .ok (.enter f args) W ∧ Calls P f args W fun e W' => ∃ v, e = .returned v ∧ ((Below W.heap.size W W' ∧ i ≠ c1 ∧ i ≠ c2) ∨ (R W W' ∧ J (p + 1) W' ∧ (i = c1 ∨ i = c2))) ∧ G d v W')))
    (hend : ∀ a' W, J 2 W → R w W → a'.tmps.size = a.tmps.size → a'.defers = a.defers → (∀ k, (dsts l.toArray).contains k = false → a'.eval (.tmp k) = a.eval (.tmp k)) →
      (∀ (i d : Nat), i < l.length → (l[i]?).bind (·.dst) = some d → G d (a'.eval (.tmp d)) W) → Q .normal a' W) : (Code.region id l.toArray true).wp P Q a w := by
  refine wp_region_inv8 (fun li a' W => ClB l.toArray li ∧ li.size = l.length ∧ a'.tmps.size = a.tmps.size ∧ a'.defers = a.defers ∧ (∀ k, (dsts l.toArray).contains k = false → a'.eval (.tmp k) = a.eval (.tmp k)) ∧ R w W ∧ (∀ (i d : Nat), li.getD i false = true → (l[i]?).bind (·.dst) = some d → G d (a'.eval (.tmp d)) W) ∧ J (phs (li.getD c1 false) (li.getD c2 false)) W) hm ?_ ?_ ?_
  · rintro li a' W i o ⟨hcl, hsz, hs, hdf, hk, hR, hG, hp⟩ hu ho hd
    obtain ⟨d, hdo, hdn⟩ := dst_of hdst ho
    have hc2o : ∃ o2, l.toArray[c2]? = some o2 := ⟨l[c2], by simp [hc2]⟩
    obtain ⟨o2, ho2⟩ := hc2o
    have h21 : li.getD c2 false = true → li.getD c1 false = true := fun h => need_done hcl f c2 c1 o2 ho2 (hcl c2 o2 ho2 h) hneed
    have e1 : i = c1 → phs (li.getD c1 false) (li.getD c2 false) = 0 := fun e => by
      subst e; rw [getD_fst hu]; rfl
    have e2 : i = c2 → phs (li.getD c1 false) (li.getD c2 false) = 1 := fun e => by
      subst e
      rw [getD_fst hu, need_done hcl f i c1 o ho hd hneed]; rfl
    have hlo : l[i]? = some o := by simpa using ho
    obtain ⟨hw, h2⟩ := hstep a' W _ hp hR hs hk i o d hlo hdo e1 e2 (fun e he hbd d' hd' => hG e.on d' (hd e he hbd) hd')
    have next : ∀ (v : Value) (W' : World), ((Below W.heap.size W W' ∧ i ≠ c1 ∧ i ≠ c2) ∨ (R W W' ∧ J (phs (li.getD c1 false) (li.getD c2 false) + 1) W' ∧ (i = c1 ∨ i = c2))) → G d v W' →
        ClB l.toArray (li.setIfInBounds i true) ∧ (li.setIfInBounds i true).size = l.length ∧ (a'.put o.dst v).tmps.size = a.tmps.size ∧ (a'.put o.dst v).defers = a.defers ∧ (∀ k, (dsts l.toArray).contains k = false → (a'.put o.dst v).eval (.tmp k) = a.eval (.tmp k)) ∧ R w W' ∧ (∀ (j dj : Nat), (li.setIfInBounds i true).getD j false = true → (l[j]?).bind (·.dst) = some dj → G dj ((a'.put o.dst v).eval (.tmp dj)) W') ∧ J (phs ((li.setIfInBounds i true).getD c1 false) ((li.setIfInBounds i true).getD c2 false)) W' := by
      intro v W' hb hv
      have hRW : R W W' := hb.elim (fun h => hRb _ _ h.1) (fun h => h.1)
      rw [hdo]
      refine ⟨hcl.set ho hd, by rw [Array.size_setIfInBounds]; exact hsz, by simp only [Act.put]; rw [Array.size_setIfInBounds]; exact hs, by simp only [Act.put]; exact hdf, ?_, hRt _ _ _ hR hRW, ?_, ?_⟩
      · intro k hkn
        rw [put_ne a' v (fun e => by rw [e, List.contains_iff_mem.2 (mem_dsts ho hdo)] at hkn; cases hkn)]
        exact hk k hkn
      · intro j dj hj hdj
        by_cases hij : j = i
        · subst hij
          rw [hlo] at hdj
          have : d = dj := Option.some.inj (hdo.symm.trans hdj)
          subst this
          rw [put_eq a' v (by rw [hs]; exact hdn)]
          exact hv
        · rw [getD_setN hij] at hj
          have hne : dj ≠ d := by
            intro e
            subst e
            cases hoj : l[j]? with
            | none => rw [hoj] at hdj; cases hdj
            | some o' =>
              rw [hoj] at hdj
              exact hij (dst_inj hdst (show l.toArray[j]? = some o' from by simpa using hoj) ho hdj hdo)
          rw [put_ne a' v hne]
          exact hmono _ _ _ _ (hG j dj hj hdj) hRW
      · rcases hb with ⟨hb, n1, n2⟩ | ⟨_, hj, hcc⟩
        · rw [getD_setN (Ne.symm n1), getD_setN (Ne.symm n2)]
          exact hJ _ _ _ hp hb
        · rcases hcc with e | e
          · rw [e1 e] at hj
            subst e
            rw [getD_setS hu, getD_setN (Ne.symm hc12)]
            have : li.getD c2 false = false := by
              cases hx : li.getD c2 false with
              | false => rfl
              | true => have := h21 hx; rw [getD_fst hu] at this; cases this
            rw [this]; exact hj
          · rw [e2 e] at hj
            subst e
            rw [getD_setS hu, getD_setN hc12, need_done hcl f i c1 o ho hd hneed]
            exact hj
    refine ⟨hw, ?_⟩
    rcases h2 with ⟨v, W', hr, hb, hv⟩ | ⟨f', args, hr, hc⟩
    · exact .inl ⟨v, W', hr, next v W' (.inl hb) hv⟩
    · exact .inr ⟨f', args, hr, hc.mono fun e W' ⟨v, he, hb, hv⟩ => ⟨v, he, next v W' hb hv⟩⟩
  · rintro li a' W ⟨hcl, hsz, hs, hdf, hk, hR, hG, hp⟩ he
    have hall : ∀ j, j < l.length → li.getD j false = true := fun j hj => ready_nil_allT hback (by simpa using hsz) he j j (Nat.le_refl _) (by simpa using hj)
    have hc2o : ∃ o2, l.toArray[c2]? = some o2 := ⟨l[c2], by simp [hc2]⟩
    obtain ⟨o2, ho2⟩ := hc2o
    have h2 := hall c2 hc2
    rw [h2, need_done hcl f c2 c1 o2 ho2 (hcl c2 o2 ho2 h2) hneed] at hp
    exact hend a' W hp hR hs hdf hk (fun i d hi hd => hG i d (hall i hi) hd)
  · refine ⟨fun i o _ hi => by rw [Array.getD_eq_getD_getElem?, Array.getElem?_replicate] at hi; split at hi <;> simp at hi, by simp, rfl, rfl, fun _ _ => rfl, hRb _ _ ((Below.refl w.heap.size w).drew), ?_, ?_⟩
    · intro i d hi
      rw [Array.getD_eq_getD_getElem?, Array.getElem?_replicate] at hi
      split at hi <;> simp at hi
    · have : ∀ i, (Array.replicate l.toArray.size false).getD i false = false := fun i => by
        rw [Array.getD_eq_getD_getElem?, Array.getElem?_replicate]; split <;> rfl
      rw [this, this]; exact hJ0
end
/-- A block stays. -/
def OpS (k : Nat) (X Y : World) : Prop := k < X.heap.size → k < Y.heap.size ∧ Y.heap[k]? = X.heap[k]?
theorem OpS.of_below {k : Nat} {X Y : World} (h : Below X.heap.size X Y) : OpS k X Y := fun hk => ⟨Nat.lt_of_lt_of_le hk h.size, h.block k hk⟩
theorem OpS.trans {k : Nat} {X Y Z : World} (h : OpS k X Y) (h2 : OpS k Y Z) : OpS k X Z := fun hk => ⟨(h2 (h hk).1).1, (h2 (h hk).1).2.trans (h hk).2⟩
section
variable {w W1 X X' : World} {b0 tb rb : Nat} {root : Int} {base mb : Nat} {F : Nat → Prop} {S S' : Abs} {g cap : Nat} {cs : Array Value} {L : List Th}
/-- How far both are. -/
def HJ (W1 : World) (b0 tb rb : Nat) (root : Int) (base mb : Nat) (S' : Abs) (g cap : Nat) (cs : Array Value) (L : List Th) : Nat → World → Prop
  | 0, X => Below W1.heap.size W1 X
  | 1, X => (∃ F', HX root X base tb mb F' S' ∧ RS X rb g cap cs root L F' ∧ ∀ k, F' k → base ≤ k) ∧ Below b0 W1 X
  | _, X => (∃ F' g' cap' cs' L', Bo X b0 tb rb root base mb F' S' g' cap' cs' L') ∧ Below b0 W1 X
theorem HJ.below {p : Nat} (h : HJ W1 b0 tb rb root base mb S' g cap cs L p X) (hb0 : b0 ≤ W1.heap.size) (hb : Below X.heap.size X X') : HJ W1 b0 tb rb root base mb S' g cap cs L p X' := by
  match p, h with
  | 0, h => exact Below.trans h (hb.mono h.size)
  | 1, ⟨⟨F', h1, h2, h3⟩, h4⟩ => exact ⟨⟨F', h1.below hb, h2.below hb, h3⟩, h4.trans (hb.mono (Nat.le_trans hb0 h4.size))⟩
  | p + 2, ⟨⟨F', g', cap', cs', L', h1⟩, h4⟩ => exact ⟨⟨F', g', cap', cs', L', h1.below hb⟩, h4.trans (hb.mono (Nat.le_trans hb0 h4.size))⟩
theorem HJ.bo (h : Bo w b0 tb rb root base mb F S g cap cs L) (b1 : Below w.heap.size w W1) (hj : HJ W1 b0 tb rb root base mb S' g cap cs L 0 X) : Bo X b0 tb rb root base mb F S g cap cs L := h.below (b1.trans (Below.mono hj b1.size))
theorem HJ.one (h : Bo w b0 tb rb root base mb F S g cap cs L) (b1 : Below w.heap.size w W1) (hz : w.heap.size < W1.heap.size) (hj : HJ W1 b0 tb rb root base mb S' g cap cs L 0 X) (hd : DidX root X base tb mb F S' X') : OpS w.heap.size X X' ∧ HJ W1 b0 tb rb root base mb S' g cap cs L 1 X' := by
  have hB := HJ.bo h b1 hj
  obtain ⟨F', h1, h2, h3⟩ := hB.hold hd
  obtain ⟨F'', _, f2⟩ := hd
  have hw : w.heap.size < X.heap.size := Nat.lt_of_lt_of_le hz hj.size
  refine ⟨fun hk => ⟨Nat.lt_of_lt_of_le hk f2.size, f2.same _ hk (fun e => ?_)⟩, ⟨F', h1, h2, fun k hk => (h1.lt hk).1⟩, (Below.mono hj (Nat.le_trans h.bw b1.size)).trans h3⟩
  have := (h.hx.lt e).2
  omega
theorem HJ.two (h : Bo w b0 tb rb root base mb F S g cap cs L) (hj : HJ W1 b0 tb rb root base mb S' g cap cs L 1 X) (hb0 : b0 ≤ W1.heap.size) {F' : Nat → Prop} (x1 : HX root X base tb mb F' S') (x2 : RS X rb g cap cs root L F') (hr : RStep X X' rb g root F' S') : OpS w.heap.size X X' ∧ HJ W1 b0 tb rb root base mb S' g cap cs L 2 X' := by
  have hz : b0 ≤ X.heap.size := Nat.le_trans hb0 hj.2.size
  obtain ⟨⟨g', cap', cs', L', h1⟩, h2⟩ := h.refd x1 hz hr x2
  obtain ⟨_, _, _, _, _, _, r3⟩ := hr
  refine ⟨fun hk => ⟨Nat.lt_of_lt_of_le hk r3.size, r3.same _ hk (fun e => ?_)⟩, ⟨F', g', cap', cs', L', h1⟩, hj.2.trans h2⟩
  have := h.rs.rl
  omega
theorem op_cells {ks : Array Value} (hO : W1.heap[w.heap.size]? = some (.cells ks 32 (0, 0))) (hX : OpS w.heap.size W1 X) {j : Nat} {u : Value} (hj : ks[j]? = some u) : X.cell? ⟨w.heap.size, j, none⟩ = some u := by
  have := (hX (heap_lt hO)).2.trans hO
  simp [World.cell?, this, hj]
end
end Go.Proofs.Ytebcnlhgkpaghaa
