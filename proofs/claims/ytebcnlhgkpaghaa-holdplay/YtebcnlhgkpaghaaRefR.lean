/- What Relabel and Info of the reference do. -/
import Derived.Test.YtebcnlhgkpaghaaRefL
namespace Go.Proofs.Ytebcnlhgkpaghaa
open Go.RowKit Go.Sort
section
variable {w : World} {rb g cap : Nat} {cs : Array Value} {root : Int} {L : List Th} {F : Nat → Prop} {S : Abs} {K : List Int} {rt : Int}
def relabS (S : Abs) (id d : Int) (xs : List (Int × Int)) : Int := match S id with
  | none => 4
  | some o => if o.kind ≠ 4 then 5 else if plainS d xs = true then 0 else 1
def relabT (S : Abs) (id d : Int) (xs : List (Int × Int)) : Abs := if relabS S id d xs = 0 then (match S id with
  | some o => updS S id { o with df := d, cats := xs }
  | none => S) else S
theorem relabT_no {S : Abs} {id d : Int} {xs : List (Int × Int)} (h : relabS S id d xs ≠ 0) : relabT S id d xs = S := by unfold relabT; rw [if_neg h]
theorem RS.setL {W : World} (h : RS w rb g cap cs root L F) (hb : Below w.heap.size w W) {i : Nat} (hi : i < L.length) (d : Int) (p : Option Addr) (c : Nat) (xs : List (Int × Int)) (hc : CatsAt W p xs) (ho : Off (fun b => b = rb ∨ b = g ∨ F b) p xs.length) (hl : xs.length < 1000000) :
    ∃ cs', RS ((W.setCell ⟨g, i * 6 + 3, none⟩ (.int .i64 d)).setCell ⟨g, i * 6 + 4, none⟩ (.slice p xs.length c)) rb g cap cs' root (L.set i { L[i] with df := d, cp := p, cc := c, cats := xs }) F ∧ Fm w ((W.setCell ⟨g, i * 6 + 3, none⟩ (.int .i64 d)).setCell ⟨g, i * 6 + 4, none⟩ (.slice p xs.length c)) (fun k => k = rb ∨ k = g) (fun k => k = rb ∨ k = g) := by
  have hlim := h.lim.2 L[i] (List.getElem_mem hi)
  obtain ⟨r1, r2⟩ := h.set1 hb hi 3 (by omega) (.int .i64 d) { L[i] with df := d } rfl rfl (h.old hb (g' := g) (t := L[i]) (.inl rfl) (List.getElem_mem hi)) hlim
  have hi' : i < (L.set i { L[i] with df := d }).length := by simpa using hi
  have ho' : Off (fun b => b = rb ∨ b = g ∨ b = g ∨ F b) p xs.length := fun hn a ha hx => ho hn a ha (by rcases hx with e | e | e | e; exact .inl e; exact .inr (.inl e); exact .inr (.inl e); exact .inr (.inr e))
  have hold := r1.old (Below.refl _ _) (g' := g) (t := { L[i] with df := d }) (.inl rfl) (List.mem_iff_getElem.2 ⟨i, hi', by simp⟩)
  have hc' : CatsAt (W.setCell ⟨g, i * 6 + 3, none⟩ (.int .i64 d)) p xs := cats_keep hc ho (fun k hk hn => heap_ne _ _ _ (fun e => hn (.inr (.inl e)))) (by simp)
  have hg : (L.set i { L[i] with df := d })[i] = { L[i] with df := d } := by simp
  obtain ⟨r3, r4⟩ := r1.set1 (Below.refl _ _) hi' 4 (by omega) (.slice p xs.length c) { L[i] with df := d, cp := p, cc := c, cats := xs } (by rw [hg]; rfl) (by rw [hg]) ⟨hc', hold.2.1, ho', hold.2.2.2⟩ ⟨hl, hlim.2⟩
  rw [List.set_set] at r3
  exact ⟨_, r3, r2.tr r4⟩
set_option maxRecDepth 100000 in
set_option maxHeartbeats 4000000 in
theorem rRelab_any (h : RS w rb g cap cs root L F) (hr : RelD S L []) (id d : Int) (p : Option Addr) (cc : Nat) (xs : List (Int × Int)) (hm : xs.length ≤ maxLen) (hc : CatsAt w p xs) (ho : Off (fun b => b = rb ∨ b = g ∨ F b) p xs.length) :
    Calls Try.prog 26 #[.pointer (some ⟨rb, 0, none⟩), .int .i64 id, .agg #[.int .i64 d, .slice p xs.length cc]] w fun e w' => e = .returned (.int .i64 (relabS S id d xs)) ∧ RStep w w' rb g root F (relabT S id d xs) := by
  obtain ⟨W0, hW0⟩ : ∃ W0, w.alloc (.cells #[.int .i64 d, .slice p xs.length cc] 24) = W0 := ⟨_, rfl⟩
  have hb0 : Below w.heap.size w W0 := by rw [← hW0]; exact (Below.refl _ _).alloc (Nat.le_refl _) _
  have a0 : W0.cell? ⟨w.heap.size, 0, none⟩ = some (.int .i64 d) := by rw [← hW0]; simp [go_sem]
  have a1 : W0.cell? ⟨w.heap.size, 1, none⟩ = some (.slice p xs.length cc) := by rw [← hW0]; simp [go_sem]
  have hz0 : w.heap.size < W0.heap.size := by rw [← hW0]; simp
  have h' := h.below hb0
  have HH := Lib.hid h
  have HR := Lib.hid hr
  have HB0 := Lib.hid hb0
  have HC := Lib.hid hc
  have HO := Lib.hid ho
  have hLn := h.lim.1
  obtain ⟨h0, h1⟩ := h'.hd
  have HA := Lib.hid (rAt_any h' id)
  cases hS : S id with
  | none =>
    rw [atL_no 0 (hr.nopos hS)] at HA
    have HE : Hid (relabS S id d xs = 4) := by simp only [Hid]; unfold relabS; rw [hS]
    clear h hr h' hc ho hb0
    go_enter Try.func26, Try.ntmps26
    go_wp2_with (go_at_call 51; with_reducible refine Calls.mono HA.out ?_; rintro e w' ⟨rfl, hw'⟩; rw [hw']; clear hw' w')
    go_ret
    exact ⟨by rw [HE.out]; rfl, by rw [relabT_no (by rw [HE.out]; decide)]; exact RStep.still HH.out HR.out HB0.out⟩
  | some o =>
    obtain ⟨k, hk, e, m⟩ := hr.pos hS
    rw [atL_yes 0 hk h.nd e, Nat.zero_add] at HA
    obtain ⟨_, c1, _⟩ := h'.six hk
    rw [← m.1] at c1
    have hki : (k : Int) < (L.length : Int) := by omega
    have hk0 : ¬ (k : Int) < 0 := by omega
    have Hm := Lib.hid m
    have He := Lib.hid e
    have HS := Lib.hid hS
    by_cases hk4 : o.kind = 4
    · have HP := Lib.hid (refPlain_any d p cc xs W0 hm (hc.below hb0))
      by_cases hpl : plainS d xs = true
      · rw [hpl] at HP
        have HE : Hid (relabS S id d xs = 0) := by simp only [Hid]; unfold relabS; rw [hS]; simp only [hk4, hpl]; rfl
        clear h hr h' hc ho hb0 m e
        go_enter Try.func26, Try.ntmps26
        go_upto_region 8 with (first | (go_at_call 51; with_reducible refine Calls.mono HA.out ?_; rintro e w' ⟨rfl, hw'⟩; rw [hw']; clear hw' w') | (go_at_call 48; with_reducible refine Calls.mono HP.out ?_; rintro e w2 ⟨rfl, hb2⟩; have HB2 := Lib.hid hb2; clear hb2))
        have b2 := HB0.out.trans (HB2.out.mono HB0.out.size)
        have hB2 := Lib.hid b2
        have h2 := HH.out.below b2
        have y1 := h2.hd.2
        have hgl := h2.rl
        have y2 := (HB2.out.cell (p := ⟨w.heap.size, 0, none⟩) hz0).trans a0
        have y3 := (HB2.out.cell (p := ⟨w.heap.size, 1, none⟩) hz0).trans a1
        have hz2 : w.heap.size < w2.heap.size := Nat.lt_of_lt_of_le hz0 HB2.out.size
        have q1 : ∀ n' os, (gx w2 n' os).cell? ⟨rb, 1, none⟩ = some (.slice (some ⟨g, 0, none⟩) L.length cap) := cell_gx hgl.1 y1
        have q2 : ∀ n' os, (gx w2 n' os).cell? ⟨w.heap.size, 0, none⟩ = some (.int .i64 d) := cell_gx hz2 y2
        have q3 : ∀ n' os, (gx w2 n' os).cell? ⟨w.heap.size, 1, none⟩ = some (.slice p xs.length cc) := cell_gx hz2 y3
        clear b2 h2 y1 y2 y3 a0 a1 h0 h1 c1
        refine wp_region_tail_gx 8 (by kernel_rfl) (by kernel_rfl) ?_
        simp only [List.take_succ_cons, List.take_zero, List.drop_succ_cons, List.drop_zero]
        repeat (first | go_big_quiet_step (fail) | (refine wpQuiet_step (fun K hK => ?_); go_simp; split <;> first | (exfalso; omega) | (refine hK _ ?_; clear hK K)))
        refine wpQuiet_nil ?_
        intro _ hw'
        obtain ⟨⟨nq, osq⟩, hw''⟩ := hw'
        subst hw''
        have hBg := hB2.out.trans ((gx_below w2 nq osq).mono hB2.out.size)
        have h3 := HH.out.below hBg
        obtain ⟨_, _, _, z3, z4, _⟩ := h3.six hk
        have f3 : (gx w2 nq osq).frozen? ⟨g, k * 6 + 3, none⟩ = false := by simp [World.frozen?, h3.blk]
        have f4 : (gx w2 nq osq).frozen? ⟨g, k * 6 + 4, none⟩ = false := by simp [World.frozen?, h3.blk]
        have HBG := Lib.hid hBg
        clear h3 hBg
        go_wp2_with fail
        go_ret
        refine ⟨by rw [HE.out]; rfl, ?_⟩
        obtain ⟨cs', r1, r2⟩ := HH.out.setL HBG.out hk d p cc xs (HC.out.below HBG.out) HO.out (by unfold plainS rightS at hpl; simp at hpl; omega)
        refine ⟨g, cap, cs', _, r1, ?_, r2⟩
        unfold relabT
        rw [if_pos HE.out, HS.out]
        refine HR.out.set HH.out.nd hk (t := { L[k] with df := d, cp := p, cc := cc, cats := xs }) rfl (fun j hj => updS_ne _ _ (fun e => hj (e.trans He.out.symm))) ⟨fun _ => ⟨{ o with df := d, cats := xs }, ?_, ?_⟩, (fun hD => by cases hD)⟩
        · show updS S id _ L[k].id = _
          rw [He.out]; exact updS_at _ _ _
        · exact ⟨Hm.out.1, Hm.out.2.1, rfl, rfl, Hm.out.2.2.2.2⟩
      · have hpf : plainS d xs = false := by simpa using hpl
        rw [hpf] at HP
        have HE : Hid (relabS S id d xs = 1) := by simp only [Hid]; unfold relabS; rw [hS]; simp only [hk4, hpf]; rfl
        clear h hr h' hc ho hb0 m e
        go_enter Try.func26, Try.ntmps26
        go_wp2_with (first | (go_at_call 51; with_reducible refine Calls.mono HA.out ?_; rintro e w' ⟨rfl, hw'⟩; rw [hw']; clear hw' w') | (go_at_call 48; with_reducible refine Calls.mono HP.out ?_; rintro e w2 ⟨rfl, hb2⟩; have HB2 := Lib.hid hb2; clear hb2))
        go_ret
        exact ⟨by rw [HE.out]; rfl, by rw [relabT_no (by rw [HE.out]; decide)]; exact RStep.still HH.out HR.out (HB0.out.trans (HB2.out.mono HB0.out.size))⟩
    · have hkb : (o.kind != 4) = true := by simpa using hk4
      have HE : Hid (relabS S id d xs = 5) := by simp only [Hid]; unfold relabS; rw [hS]; simp only [if_pos (show o.kind ≠ 4 from hk4)]
      clear h hr h' hc ho hb0 m e
      go_enter Try.func26, Try.ntmps26
      go_wp2_with (first | (go_at_call 51; with_reducible refine Calls.mono HA.out ?_; rintro e w' ⟨rfl, hw'⟩; rw [hw']; clear hw' w'))
      go_ret
      exact ⟨by rw [HE.out]; rfl, by rw [relabT_no (by rw [HE.out]; decide)]; exact RStep.still HH.out HR.out HB0.out⟩
end
end Go.Proofs.Ytebcnlhgkpaghaa
