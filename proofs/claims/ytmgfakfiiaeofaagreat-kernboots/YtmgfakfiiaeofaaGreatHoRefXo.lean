/- A list of the reference, and what it lies outside of. -/
import Derived.Test.YtmgfakfiiaeofaaGreatHoRefL
import Derived.Test.YtmgfakfiiaeofaaGreatHoRefMfo
import Derived.Test.YtmgfakfiiaeofaaGreatHoRefMfr
import Derived.Test.YtmgfakfiiaeofaaGreatKoCst
import Derived.Great.Walk
/- What Info of the reference answers. -/
namespace Go.Proofs.YtmgfakfiiaeofaaGreat.Ho
open Go.RowKit Go.Sort
section
variable {w : World} {rb g cap : Nat} {cs : Array Value} {root : Int} {L : List Th} {F : Nat -> Prop} {S : Abs} {K : List Int} {rt : Int}
set_option maxRecDepth 100000 in
set_option maxHeartbeats 4000000 in
theorem rInfo_some (h : RS w rb g cap cs root L F) (hr : RelD S L []) (hi : Inv root S K) (x : Int) {o : Ob} (hS : S x = some o) :
 Calls Tryz.prog 56 #[.pointer (some ⟨rb, 0, none⟩), .int .i64 x] w fun e w' => ∃ p c, e = .returned (.tuple #[.agg #[.int .i64 o.id, .int .i64 o.kind, .int .i64 o.quota, .int .i64 o.used, .int .i64 o.links, .int .i64 o.df, .slice p o.cats.length c], .bool true]) /\ CatsAt w' p o.cats /\ Below w.heap.size w w' := by
 obtain ⟨W0, hW0⟩ : ∃ W0, w.alloc (.cells #[.int .i64 0, .int .i64 0, .int .i64 0, .int .i64 0, .int .i64 0, .int .i64 0, .slice none 0 0] 89) = W0 := ⟨_, rfl⟩
 have hb0 : Below w.heap.size w W0 := by rw [<- hW0]; exact (Below.refl _ _).alloc (Nat.le_refl _) _
 have hz0 : W0.heap.size = w.heap.size + 1 := by rw [<- hW0]; simp
 obtain ⟨k, hk, e, m⟩ := hr.pos hS
 have HA := Lib.hid (rAt_any (h.below hb0) x)
 rw [atL_yes 0 hk h.nd e, Nat.zero_add] at HA
 have h' := h.below hb0
 obtain ⟨h0, h1⟩ := h'.hd
 obtain ⟨c0, c1, c2, c3, c4, c5⟩ := h'.six hk
 have hLn := h.lim.1
 have hki : (k : Int) < (L.length : Int) := by omega
 have hk0 : ¬ (k : Int) < 0 := by omega
 rw [e] at c0
 rw [<- m.1] at c1
 rw [<- m.2.1] at c2
 rw [<- m.2.2.1] at c3
 rw [<- m.2.2.2.1] at c4
 have hid := (hi.ok _ _ hS).id
 have hgo := hi.ok _ _ hS
 have hne : ∀ t ∈ L, t.ents.Nodup := fun t ht => by
  obtain ⟨o', ho', hm'⟩ := hr.yes t ht (by simp)
  rw [<- hm'.2.2.2.2]; exact (hi.ok _ _ ho').nd
 have hlk := lk_top hr h.nd hne hi.bal hS
 have hC := (h.cat _ (List.getElem_mem hk)).1
 rw [<- m.2.2.2.1] at hC
 generalize hcp : L[k].cp = cp at c4 hC
 generalize hcc : L[k].cc = cc at c4
 generalize hlp : L[k].lp = lp at c5
 generalize hlc : L[k].lc = lc at c5
 generalize hle : L[k].ents = le at c5
 obtain ⟨W1, hW1⟩ : ∃ W1, W0.alloc (.cells #[.int .i64 x, .int .i64 o.kind, .int .i64 o.quota, .int .i64 o.df, .slice cp o.cats.length cc, .slice lp le.length lc] 130) = W1 := ⟨_, rfl⟩
 have hb1 : Below w.heap.size w W1 := by rw [<- hW1]; exact hb0.alloc hb0.size _
 have hT : W1.heap[w.heap.size + 1]? = some (.cells #[.int .i64 x, .int .i64 o.kind, .int .i64 o.quota, .int .i64 o.df, .slice cp o.cats.length cc, .slice lp le.length lc] 130 (0, 0)) := by rw [<- hW1, <- hz0]; exact heap_new _ _
 have hz1 : W1.heap.size = w.heap.size + 2 := by rw [<- hW1]; simp [hz0]
 have hI : W1.heap[w.heap.size]? = some (.cells #[.int .i64 0, .int .i64 0, .int .i64 0, .int .i64 0, .int .i64 0, .int .i64 0, .slice none 0 0] 89 (0, 0)) := by
  rw [<- hW1]
  refine (Below.heap_alloc W0 _ _ (by omega)).trans ?_
  rw [<- hW0]; exact heap_new _ _
 have q1 : ∀ n' os, (gx W1 n' os).cell? ⟨w.heap.size + 1, 1, none⟩ = some (.int .i64 o.kind) := cell_gx (by show w.heap.size + 1 < _; omega) (by simp [World.cell?, hT])
 have q2 : ∀ n' os, (gx W1 n' os).cell? ⟨w.heap.size + 1, 2, none⟩ = some (.int .i64 o.quota) := cell_gx (by show w.heap.size + 1 < _; omega) (by simp [World.cell?, hT])
 have q3 : ∀ n' os, (gx W1 n' os).cell? ⟨w.heap.size + 1, 3, none⟩ = some (.int .i64 o.df) := cell_gx (by show w.heap.size + 1 < _; omega) (by simp [World.cell?, hT])
 have q4 : ∀ n' os, (gx W1 n' os).cell? ⟨w.heap.size + 1, 4, none⟩ = some (.slice cp o.cats.length cc) := cell_gx (by show w.heap.size + 1 < _; omega) (by simp [World.cell?, hT])
 have HU : Hid (∀ n' os, Calls Tryz.prog 101 #[.pointer (some ⟨rb, 0, none⟩), .int .i64 k] (gx W1 n' os) fun e w' => e = .returned (.int .i64 o.used) /\ Below (gx W1 n' os).heap.size (gx W1 n' os) w') := fun n' os => rUsed_any (h.below (hb1.trans ((gx_below W1 n' os).mono hb1.size))) hr hi k hk (by rw [e]; exact hS)
 have HL : Hid (∀ n' os, Calls Tryz.prog 114 #[.pointer (some ⟨rb, 0, none⟩), .int .i64 x] (gx W1 n' os) fun e w' => e = .returned (.int .i64 o.links) /\ Below (gx W1 n' os).heap.size (gx W1 n' os) w') := fun n' os => (rLinks_any (h.below (hb1.trans ((gx_below W1 n' os).mono hb1.size))) x).mono fun e w' ⟨a, b⟩ => ⟨by rw [a, hlk], by rw [b]; exact Below.refl _ _⟩
 have HI := Lib.hid hI
 have HB1 := Lib.hid hb1
 have HC := Lib.hid hC
 have hidx := Lib.hid hid
 clear h hr hi h' hS m e hlk hne hgo hC hI hb1 hb0 hid hcp hcc hlp hlc hle hT
 go_enter Tryz.func56, Tryz.ntmps56
 go_upto_region 5 with (go_at_call 44; with_reducible refine Calls.mono HA.out ?_; rintro e w' ⟨rfl, hw'⟩; rw [hw']; clear hw' w')
 try simp only [hz0]
 try rw [hW1]
 refine wp_region_tail_gx 14 (by kernel_rfl) (by kernel_rfl) ?_
 simp only [List.take_succ_cons, List.take_zero, List.drop_succ_cons, List.drop_zero]
 repeat (first | go_big_quiet_step (first
  | (go_at_call 101; with_reducible exact calls_gx (HU.out _ _))
  | (go_at_call 114; with_reducible exact calls_gx (HL.out _ _))) | (refine wpQuiet_step (fun K hK => ?_); go_simp; split <;> first | (exfalso; omega) | (refine hK _ ?_; clear hK K)))
 refine wpQuiet_nil ?_
 intro _ hw'
 obtain ⟨⟨nq, osq⟩, hw''⟩ := hw'
 subst hw''
 have hBg := HB1.out.trans ((gx_below W1 nq osq).mono HB1.out.size)
 have hG : (gx W1 nq osq).heap[w.heap.size]? = some (.cells #[.int .i64 0, .int .i64 0, .int .i64 0, .int .i64 0, .int .i64 0, .int .i64 0, .slice none 0 0] 89 (0, 0)) := ((gx_below W1 nq osq).block _ (by omega)).trans HI.out
 have HBG := Lib.hid hBg
 generalize gx W1 nq osq = w2 at hG HBG |-
 have s0 : w2.cell? ⟨w.heap.size, 0, none⟩ = some (.int .i64 0) := by simp [World.cell?, hG]
 have s1 : w2.cell? ⟨w.heap.size, 1, none⟩ = some (.int .i64 0) := by simp [World.cell?, hG]
 have s2 : w2.cell? ⟨w.heap.size, 2, none⟩ = some (.int .i64 0) := by simp [World.cell?, hG]
 have s3 : w2.cell? ⟨w.heap.size, 3, none⟩ = some (.int .i64 0) := by simp [World.cell?, hG]
 have s4 : w2.cell? ⟨w.heap.size, 4, none⟩ = some (.int .i64 0) := by simp [World.cell?, hG]
 have s5 : w2.cell? ⟨w.heap.size, 5, none⟩ = some (.int .i64 0) := by simp [World.cell?, hG]
 have s6 : w2.cell? ⟨w.heap.size, 6, none⟩ = some (.slice none 0 0) := by simp [World.cell?, hG]
 have sf : ∀ o, w2.frozen? ⟨w.heap.size, o, none⟩ = false := fun o => by simp [World.frozen?, hG]
 clear hG q1 q2 q3 q4 hBg
 go_wp2_with fail
 refine bodyPost_ret (by simp [results, Tryz.results56, go_sem, s0, s1, s2, s3, s4, s5, s6]; rfl) rfl ⟨cp, cc, by rw [hidx.out], (fun hb => ⟨HC.out.below hb, hb⟩) ?_⟩
 exact (((((((HBG.out.setCell (p := ⟨w.heap.size, 0, none⟩) (Nat.le_refl _) _).setCell (p := ⟨w.heap.size, 1, none⟩) (Nat.le_refl _) _).setCell (p := ⟨w.heap.size, 2, none⟩) (Nat.le_refl _) _).setCell (p := ⟨w.heap.size, 3, none⟩) (Nat.le_refl _) _).setCell (p := ⟨w.heap.size, 4, none⟩) (Nat.le_refl _) _).setCell (p := ⟨w.heap.size, 5, none⟩) (Nat.le_refl _) _).setCell (p := ⟨w.heap.size, 6, none⟩) (Nat.le_refl _) _)
end
section
variable {w : World} {rb g cap : Nat} {cs : Array Value} {root : Int} {L : List Th} {F : Nat -> Prop} {S : Abs} {K : List Int} {rt : Int} {base tb mb : Nat}
theorem rMake_46 (h : RS w rb g cap cs root L F) (hr : RelD S L []) (hi : Inv rt S K) (i id kind quota d : Int) (p : Option Addr) (cc : Nat) (xs : List (Int × Int)) (hm : xs.length < 1000000) (hc : CatsAt w p xs) (ho : Off (fun b => b = rb ∨ b = g ∨ F b) p xs.length) (k5 : kind ≠ 5) (hz : makeS S L.length i id kind quota d xs = 0) :
 Calls Tryz.prog 20 #[.pointer (some ⟨rb, 0, none⟩), .int .i64 i, .int .i64 id, .int .i64 kind, .int .i64 quota, .agg #[.int .i64 d, .slice p xs.length cc]] w fun e w' => e = .returned (.int .i64 0) /\ RStep w w' rb g root F (makeT S L.length i id kind quota d xs) := by
 by_cases k4 : kind = 4
 · exact rMake_four h hr hi i id kind quota d p cc xs hm hc ho k4 hz
 · exact rMake_free h hr hi i id kind quota d p cc xs hm hc ho ⟨k4, k5⟩ hz
set_option maxRecDepth 100000 in
set_option maxHeartbeats 2000000 in
theorem rNew_yes (root d : Int) (p : Option Addr) (cc : Nat) (xs : List (Int × Int)) (w : World) (hm : xs.length < 1000000) (hc : CatsAt w p xs) (hi : isCt root = true) (hf : fitsS d 1 xs = true) :
 Calls Tryz.prog 18 #[.int .i64 root, .agg #[.int .i64 d, .slice p xs.length cc]] w fun e w' => ∃ rb g, e = .returned (.pointer (some ⟨rb, 0, none⟩)) /\ w.heap.size <= rb /\ w.heap.size <= g /\ rb ≠ g /\ w'.heap[rb]? = some (.cells #[.int .i64 root, .slice (some ⟨g, 0, none⟩) 1 1] 133 (0, 0)) /\ w'.heap[g]? = some (.cells (thC ⟨root, 1, 1099511627776, d, p, cc, xs, none, 0, []⟩).toArray 130 (0, 0)) /\ Below w.heap.size w w' := by
 obtain ⟨W0, hW0⟩ : ∃ W0, w.alloc (.cells #[.int .i64 d, .slice p xs.length cc] 46) = W0 := ⟨_, rfl⟩
 have hb0 : Below w.heap.size w W0 := by rw [<- hW0]; exact (Below.refl _ _).alloc (Nat.le_refl _) _
 have a0 : W0.cell? ⟨w.heap.size, 0, none⟩ = some (.int .i64 d) := by rw [<- hW0]; simp [go_sem]
 have a1 : W0.cell? ⟨w.heap.size, 1, none⟩ = some (.slice p xs.length cc) := by rw [<- hW0]; simp [go_sem]
 have hz0 : w.heap.size < W0.heap.size := by rw [<- hW0]; simp
 have HC := Lib.hid (Cat_any root)
 have HF := Lib.hid (refFree_any d p cc xs W0 (by unfold maxLen; omega) (hc.below hb0))
 have HB0 := Lib.hid hb0
 rw [hi] at HC
 rw [fits_free] at hf
 rw [hf] at HF
 clear hc hb0
 go_enter Tryz.func18, Tryz.ntmps18
 go_wp2_with (first | (go_at_call 40; with_reducible refine Calls.mono (HC.out _) ?_; rintro e w' ⟨rfl, hw'⟩; rw [hw']; clear hw' w') | (go_at_call 41; with_reducible refine Calls.mono HF.out ?_; rintro e w2 ⟨rfl, hb2⟩; refine Hid.out ?_))
 refine Lib.hid ?_
 have y0 := (hb2.cell (p := ⟨w.heap.size, 0, none⟩) hz0).trans a0
 have y1 := (hb2.cell (p := ⟨w.heap.size, 1, none⟩) hz0).trans a1
 have HB2 : Hid (Below w.heap.size w w2) := HB0.out.trans (hb2.mono HB0.out.size)
 clear hb2
 go_wp2_with fail
 go_ret
 have hz := HB2.out.size
 refine ⟨w2.heap.size + 1, w2.heap.size, rfl, by omega, by omega, by omega, ?_, ?_, ?_⟩
 · have := heap_new (w2.alloc (.cells #[.int .i64 root, .int .i64 1, .int .i64 1099511627776, .int .i64 d, .slice p xs.length cc, .slice none 0 0] 130)) (.cells #[.int .i64 root, .slice (some ⟨w2.heap.size, 0, none⟩) 1 1] 133 (0, 0))
   rw [World.size_alloc] at this
   exact this
 · refine (Below.heap_alloc _ _ _ (by simp)).trans ?_
   exact heap_new _ _
 · exact (HB2.out.alloc hz _).alloc (by simp; omega) _
theorem start_rs {W : World} {root d : Int} {p : Option Addr} {cc : Nat} {xs : List (Int × Int)} {rb g b0 : Nat} {F : Nat -> Prop} (h1 : W.heap[rb]? = some (.cells #[.int .i64 root, .slice (some ⟨g, 0, none⟩) 1 1] 133 (0, 0))) (h2 : W.heap[g]? = some (.cells (thC ⟨root, 1, 1099511627776, d, p, cc, xs, none, 0, []⟩).toArray 130 (0, 0))) (hc : CatsAt W p xs) (hp : 0 < xs.length -> ∀ a, p = some a -> a.block < b0) (hrb : b0 <= rb) (hg : b0 <= g) (hF : ∀ k, F k -> b0 <= k /\ k < W.heap.size /\ k ≠ rb /\ k ≠ g) (hm : xs.length < 1000000) :
 RS W rb g 1 (thC ⟨root, 1, 1099511627776, d, p, cc, xs, none, 0, []⟩).toArray root [⟨root, 1, 1099511627776, d, p, cc, xs, none, 0, []⟩] F /\ RelD (updS (fun _ => none) root (root0 root d xs)) [⟨root, 1, 1099511627776, d, p, cc, xs, none, 0, []⟩] [] := by
 refine ⟨⟨h1, h2, rfl, by simp, fun j u hu => ?_, fun t ht => ?_, fun t ht => ?_, fun e => (hF _ e).2.2.1 rfl, fun e => (hF _ e).2.2.2 rfl, by simp, ⟨by simp, fun t ht => ?_⟩, by decide, fun k hk => (hF k hk).2.1⟩, ⟨fun t ht _ => ?_, fun t ht hD => ?_, fun k o ho => ?_⟩⟩
 · rw [thsC_one] at hu; simpa using hu
 · simp at ht; subst ht; exact ⟨hc, fun j hj => by simp at hj⟩
 · simp at ht; subst ht
   refine ⟨fun hn a ha hb => ?_, fun hn => by simp at hn⟩
   have := hp hn a ha
   rcases hb with e | e | e
   · omega
   · omega
   · have := (hF _ e).1; omega
 · simp at ht; subst ht; exact ⟨hm, by simp⟩
 · simp at ht; subst ht; exact ⟨root0 root d xs, updS_at _ _ _, rfl, rfl, rfl, rfl, rfl⟩
 · cases hD
 · by_cases e : k = root
   · exact ⟨_, List.mem_singleton.2 rfl, e.symm⟩
   · rw [updS_ne _ _ e] at ho; cases ho
end
def rootA (r : Int) (u : Int) (l : List Int) : Ob := ⟨r, 1, 1099511627776, u, 1, 2, [], l⟩
def A0 (r : Int) : Abs := updS (fun _ => none) r (root0 r 2 [])
def A1 (r c : Int) : Abs := updS (updS (A0 r) r (rootA r 1 [c])) c (newOb c 6 1 2 [])
def A2 (r c t : Int) : Abs := updS (updS (A1 r c) r (rootA r 2 [c, t])) t (newOb t 4 1 2 [])
theorem A0_at (r : Int) : A0 r r = some (root0 r 2 []) := by unfold A0; rw [updS_at]
theorem A0_no {r k : Int} (h : k ≠ r) : A0 r k = none := by unfold A0; rw [updS_ne _ _ h]
theorem A1_r {r c : Int} (h1 : r ≠ c) : A1 r c r = some (rootA r 1 [c]) := by unfold A1; rw [updS_ne _ _ h1, updS_at]
theorem A1_c (r c : Int) : A1 r c c = some (newOb c 6 1 2 []) := by unfold A1; rw [updS_at]
theorem A1_no {r c k : Int} (h1 : k ≠ r) (h2 : k ≠ c) : A1 r c k = none := by unfold A1; rw [updS_ne _ _ h2, updS_ne _ _ h1, A0_no h1]
theorem A2_r {r c t : Int} (h2 : r ≠ t) : A2 r c t r = some (rootA r 2 [c, t]) := by unfold A2; rw [updS_ne _ _ h2, updS_at]
theorem A2_t (r c t : Int) : A2 r c t t = some (newOb t 4 1 2 []) := by unfold A2; rw [updS_at]
theorem A2_c {r c t : Int} (h1 : r ≠ c) (h3 : c ≠ t) : A2 r c t c = some (newOb c 6 1 2 []) := by unfold A2; rw [updS_ne _ _ h3, updS_ne _ _ (Ne.symm h1), A1_c]
theorem A2_no {r c t k : Int} (h1 : k ≠ r) (h2 : k ≠ c) (h3 : k ≠ t) : A2 r c t k = none := by unfold A2; rw [updS_ne _ _ h3, updS_ne _ _ h1, A1_no h1 h2]
theorem A0_inv {r : Int} (hi : isCt r = true) : Inv r (A0 r) [r] := by
 have s1 := A0_at r
 have s2 : ∀ k, k ≠ r -> A0 r k = none := fun k hk => A0_no hk
 generalize A0 r = S at s1 s2
 refine ⟨⟨by simp, fun k => ?_, fun x o hx => ?_, fun x hx => ?_⟩, fun k o hk => ?_, by simp, ⟨fun _ => 0, fun k o x hk hx => ?_⟩⟩
 · by_cases e : k = r
   · subst e; rw [s1]; simp
   · rw [s2 k e]; simp [e]
 · by_cases e : x = r
   · subst e; rw [s1] at hx; cases hx; simp [cnt, occ, s1, root0]
   · rw [s2 x e] at hx; cases hx
 · by_cases e : x = r
   · subst e; rw [s1] at hx; cases hx
   · exact ⟨by simp [cnt, occ, s1, root0], e⟩
 · by_cases e : k = r
   · subst e
     rw [s1] at hk; cases hk
     exact ⟨rfl, hi, (show (1 : Int) <= 1 /\ (1 : Int) <= 6 from ⟨by decide, by decide⟩), (show (1 : Int) <= 1099511627776 /\ (1099511627776 : Int) <= 1099511627776 from ⟨by decide, by decide⟩), List.nodup_nil, rfl, (show (0 : Int) <= 1099511627776 from by decide), fun h => absurd rfl h, fun _ _ => rfl, (show (1 : Int) <= 1 from by decide), (fun hm => by cases hm), (by show 0 < 1000000; decide)⟩
   · rw [s2 k e] at hk; cases hk
 · by_cases e : k = r
   · subst e; rw [s1] at hk; cases hk; cases hx
   · rw [s2 k e] at hk; cases hk
theorem fit_c : fitsS 2 (low 6) [] = true := by decide
theorem fit_t : fitsS 2 (low 4) [] = true := by decide
theorem make1 {r c : Int} (n : Nat) (hn : n < 4096) (hc : isCt c = true) (h1 : r ≠ c) : makeS (A0 r) n r c 6 1 2 [] = 0 /\ makeT (A0 r) n r c 6 1 2 [] = A1 r c := by
 have h0 : makeS (A0 r) n r c 6 1 2 [] = 0 := by
  unfold makeS contS
  rw [A0_at, A0_no (Ne.symm h1), fit_c, hc]
  have : ¬ 4096 <= n := by omega
  simp [root0, this]
 refine ⟨h0, ?_⟩
 unfold makeT
 rw [if_pos h0, A0_at]
 rfl
theorem make2 {r c t : Int} (n : Nat) (hn : n < 4096) (ht : isCt t = true) (h1 : r ≠ c) (h2 : r ≠ t) (h3 : c ≠ t) : makeS (A1 r c) n r t 4 1 2 [] = 0 /\ makeT (A1 r c) n r t 4 1 2 [] = A2 r c t := by
 have h0 : makeS (A1 r c) n r t 4 1 2 [] = 0 := by
  unfold makeS contS
  rw [A1_r h1, A1_no (Ne.symm h2) (Ne.symm h3), fit_t, ht]
  have : ¬ 4096 <= n := by omega
  simp [rootA, this]
 refine ⟨h0, ?_⟩
 unfold makeT
 rw [if_pos h0, A1_r h1]
 rfl
theorem A1_inv {r c : Int} (hr : isCt r = true) (hc : isCt c = true) (h1 : r ≠ c) : Inv r (A1 r c) [c, r] :=
 (A0_inv hr).make (d := 2) (xs := []) (kind := 6) (quota := 1) (A0_at r) (A0_no (Ne.symm h1)) rfl (by decide) (by decide) hc (by show (1 : Int) <= 1099511627776 - 0; decide) (by show 1 < 4096; decide) (by decide)
theorem A2_inv {r c t : Int} (hr : isCt r = true) (hc : isCt c = true) (ht : isCt t = true) (h1 : r ≠ c) (h2 : r ≠ t) (h3 : c ≠ t) : Inv r (A2 r c t) [t, c, r] :=
 (A1_inv hr hc h1).make (d := 2) (xs := []) (kind := 4) (quota := 1) (A1_r h1) (A1_no (Ne.symm h2) (Ne.symm h3)) rfl (by decide) (by decide) ht (by show (1 : Int) <= 1099511627776 - 1; decide) (by show 2 < 4096; decide) (by decide)
theorem rel_len {S : Abs} {L : List Th} {K : List Int} (h : RelD S L []) (hnd : (L.map (·.id)).Nodup) (hK : ∀ k, (S k).isSome = true -> k ∈ K) : L.length <= K.length := by
 have := nodup_len hnd (K := K) (fun x hx => by
  obtain ⟨t, ht, rfl⟩ := List.mem_map.1 hx
  obtain ⟨o, ho, -⟩ := h.yes t ht (by simp)
  exact hK _ (by rw [ho]; rfl))
 simpa using this
end Go.Proofs.YtmgfakfiiaeofaaGreat.Ho
/- The reference's kernel as it lies in memory, while it is made. -/
namespace Go.Proofs.YtmgfakfiiaeofaaGreat
open Go.RowKit Go.Sort
def rmZ : Array Value := #[.slice none 0 0, .slice none 0 0]
structure RKS (W : World) (lo kb rb rm dr : Nat) (al : Value) (r c t : Int) (S : Ho.Abs) : Prop where
 ker : W.heap[kb]? = some (.cells #[.pointer (some ⟨rb, 0, none⟩), .pointer (some ⟨rm, 0, none⟩), al, .slice (some ⟨dr, 0, none⟩) 3 3, .int .i64 0] 39 (0, 0))
 rms : W.heap[rm]? = some (.cells rmZ 87 (0, 0))
 drw : W.heap[dr]? = some (.cells #[.int .i64 r, .int .i64 c, .int .i64 t] 3 (0, 0))
 tab : ∃ g cap cs L, Ho.RS W rb g cap cs r L (fun k => k = kb) /\ Ho.RelD S L [] /\ lo <= rb /\ lo <= g
 lk : lo <= kb
theorem cells_ne {W : World} {a b : Nat} {x y : Array Value} {t u : TypeId} (h1 : W.heap[a]? = some (.cells x t (0, 0))) (h2 : W.heap[b]? = some (.cells y u (0, 0))) (hne : t ≠ u) : a ≠ b := fun e => by
 subst e
 rw [h1] at h2
 injection h2 with h3
 injection h3 with _ h4
 exact hne h4
theorem RKS.below {W X : World} {lo kb rb rm dr : Nat} {al : Value} {r c t : Int} {S : Ho.Abs} (h : RKS W lo kb rb rm dr al r c t S) (hb : Below W.heap.size W X) : RKS X lo kb rb rm dr al r c t S := by
 obtain ⟨h1, h2, h3, ⟨g, cap, cs, L, h4, h5, h6, h7⟩, h8⟩ := h
 exact ⟨(hb.block kb (Array.getElem?_eq_some_iff.1 h1).1).trans h1, (hb.block rm (Array.getElem?_eq_some_iff.1 h2).1).trans h2, (hb.block dr (Array.getElem?_eq_some_iff.1 h3).1).trans h3, ⟨g, cap, cs, L, h4.below hb, h5, h6, h7⟩, h8⟩
theorem RKS.make {W X : World} {lo kb rb rm dr g cap : Nat} {cs : Array Value} {L : List Ho.Th} {al : Value} {r c t : Int} {S S' : Ho.Abs} (h : RKS W lo kb rb rm dr al r c t S) (hR : Ho.RS W rb g cap cs r L (fun k => k = kb)) (h6 : lo <= rb) (h7 : lo <= g) (hlo : lo <= W.heap.size) (hs : Ho.RStep W X rb g r (fun k => k = kb) S') :
 RKS X lo kb rb rm dr al r c t S' /\ Below lo W X := by
 obtain ⟨h1, h2, h3, -, h8⟩ := h
 obtain ⟨g', cap', cs', L', r1, r2, r3⟩ := hs
 have n1 : kb ≠ rb := cells_ne h1 hR.tab (by decide)
 have n2 : kb ≠ g := cells_ne h1 hR.blk (by decide)
 have n3 : rm ≠ rb := cells_ne h2 hR.tab (by decide)
 have n4 : rm ≠ g := cells_ne h2 hR.blk (by decide)
 have n5 : dr ≠ rb := cells_ne h3 hR.tab (by decide)
 have n6 : dr ≠ g := cells_ne h3 hR.blk (by decide)
 refine ⟨⟨(r3.same kb (Array.getElem?_eq_some_iff.1 h1).1 (by rintro (e | e) <;> contradiction)).trans h1, (r3.same rm (Array.getElem?_eq_some_iff.1 h2).1 (by rintro (e | e) <;> contradiction)).trans h2, (r3.same dr (Array.getElem?_eq_some_iff.1 h3).1 (by rintro (e | e) <;> contradiction)).trans h3, ⟨g', cap', cs', L', r1, r2, h6, ?_⟩, h8⟩, ⟨r3.os, r3.tape, r3.output, r3.size, fun k hk => r3.same k (by omega) (by rintro (e | e) <;> omega)⟩⟩
 rcases r3.new g' (.inr rfl) with (e | e) | e
 · exfalso
   exact hR.ne.elim (by have := r1.ne; omega)
 · omega
 · omega
theorem RKS.all {W : World} {lo kb rb rm dr : Nat} {al : Value} {r c t : Int} {S : Ho.Abs} (h : RKS W lo kb rb rm dr al r c t S) (v : Value) : RKS (W.setCell ⟨kb, 2, none⟩ v) lo kb rb rm dr v r c t S := by
 obtain ⟨h1, h2, h3, ⟨g, cap, cs, L, h4, h5, h6, h7⟩, h8⟩ := h
 have n3 : rm ≠ kb := cells_ne h2 h1 (by decide)
 have n5 : dr ≠ kb := cells_ne h3 h1 (by decide)
 have hk : ∀ k, k ≠ kb -> (W.setCell ⟨kb, 2, none⟩ v).heap[k]? = W.heap[k]? := fun k hk => Below.heap_setCell W ⟨kb, 2, none⟩ v k hk
 have hz : (W.setCell ⟨kb, 2, none⟩ v).heap.size = W.heap.size := by simp
 refine ⟨?_, (hk rm n3).trans h2, (hk dr n5).trans h3, ⟨g, cap, cs, L, h4.keep (fun k _ hf => hk k hf) (by rw [hz]; exact Nat.le_refl _) (fun k hk => .inl hk) (fun k hk => by rw [hz]; exact h4.fl k hk), h5, h6, h7⟩, h8⟩
 rw [heap_setCell_same W kb 2 _ _ _ h1]; simp
def zO (id : Int) : Vw.Ob := ⟨id, 0, 0, 0, 0, ⟨0, none, 0, []⟩, none, 0, [], ⟨#[]⟩, none, 0, [], ⟨0, none, 0, []⟩, 0, 0, List.replicate 17 0, 0, 0, 0, 0, none, 0, [], ⟨#[]⟩, ⟨#[]⟩⟩
def zT (id : Int) : Vw.Ob := { zO id with C := ⟨4, none, 0, []⟩ }
def all3 (r c t : Int) : List Value := (zO r).cl ++ ((zO c).cl ++ (zT t).cl)
set_option maxRecDepth 100000 in
theorem built3 (r c t : Int) : Tryz.prog.builtSlice 91 3 [(0, .agg (zO r).cs), (1, .agg (zO c).cs), (2, .agg (zT t).cs)] = some (all3 r c t).toArray := by kernel_rfl
theorem zO_cs (id : Int) : #[.int .i64 id, .int .i64 0, .int .i64 0, .int .i64 0, .int .i64 0, .int .i64 0, .slice none 0 0, .slice none 0 0, .string ⟨#[]⟩, .slice none 0 0, .int .i64 0, .slice none 0 0, .int .i64 0, .int .i64 0, .int .u64 0, .int .u64 0, .int .u64 0, .int .u64 0, .int .u64 0, .int .u64 0, .int .u64 0, .int .u64 0, .int .u64 0, .int .u64 0, .int .u64 0, .int .u64 0, .int .u64 0, .int .u64 0, .int .u64 0, .int .u64 0, .int .u64 0, .int .u64 0, .int .i64 0, .int .i64 0, .int .i64 0, .slice none 0 0, .string ⟨#[]⟩, .string ⟨#[]⟩] = (zO id).cs := rfl
theorem zT_cs (id : Int) : #[.int .i64 id, .int .i64 0, .int .i64 0, .int .i64 0, .int .i64 0, .int .i64 0, .slice none 0 0, .slice none 0 0, .string ⟨#[]⟩, .slice none 0 0, .int .i64 4, .slice none 0 0, .int .i64 0, .int .i64 0, .int .u64 0, .int .u64 0, .int .u64 0, .int .u64 0, .int .u64 0, .int .u64 0, .int .u64 0, .int .u64 0, .int .u64 0, .int .u64 0, .int .u64 0, .int .u64 0, .int .u64 0, .int .u64 0, .int .u64 0, .int .u64 0, .int .u64 0, .int .u64 0, .int .i64 0, .int .i64 0, .int .i64 0, .slice none 0 0, .string ⟨#[]⟩, .string ⟨#[]⟩] = (zT id).cs := rfl
theorem exec_slice {P : Program} {ρ : Operand -> Value} {o : Oper} {w : World} (t e : TypeId) (len : Nat) (parts : Array (Nat × Operand)) (ho : o.op = .buildSlice t len parts) (hu : P.underlying t = some (.slice e)) (cells : Array Value)
 (hf : P.builtSlice e len (parts.map fun (i, x) => (i, ρ x)).toList = some cells) : (execOp ρ o).run P w = .ok (.value (.slice (some ⟨w.heap.size, 0, none⟩) len len)) (w.alloc (.cells cells e)) := by
 unfold Program.builtSlice at hf
 cases hie : P.info? e with
 | none => simp [hie] at hf
 | some ie =>
  simp only [hie] at hf
  cases hz : ie.zero with
  | none => simp [hz] at hf
  | some z =>
   simp only [hz] at hf
   by_cases hc : len * ie.size > 2 ^ 24 ∨ len * ie.size = 0
   · simp [hc] at hf
   · rw [if_neg hc] at hf
     unfold execOp
     simp only [ho]
     simp only [Sem.run_bind, Sem.run_pure, Result.andThen_ok, run_buildSlice w t e len _ cells ie z hu hie hz (fun h' => hc (Or.inl h')) (fun h' => hc (Or.inr h')) hf]
set_option maxRecDepth 100000 in
theorem rOf_nil (W : World) (rm : Nat) (x : Int) (h : W.heap[rm]? = some (.cells rmZ 87 (0, 0))) : Calls Tryz.prog 58 #[.pointer (some ⟨rm, 0, none⟩), .int .i64 x] W fun e W' => e = .returned (.slice (some ⟨W.heap.size, 0, none⟩) 0 0) /\ Below W.heap.size W W' := by
 have c1 : (W.alloc (.cells #[] 3)).cell? ⟨rm, 1, none⟩ = some (.slice none 0 0) := by
  have e := ((Below.refl W.heap.size W).alloc (Nat.le_refl _) (.cells #[] 3 (0, 0))).block rm (Array.getElem?_eq_some_iff.1 h).1
  have := e.trans h
  simp only [World.cell?, this]
  rfl
 clear h
 go_enter Tryz.func58, Tryz.ntmps58
 go_wp2
 go_loopw [5, 14] (fun o y wr => o = .slice (some ⟨W.heap.size, 0, none⟩) 0 0 /\ y = .int .i64 0 /\ Below W.heap.size W wr) (fun _ _ _ => 0)
 case atStart => exact ⟨rfl, rfl, by go_grown⟩
 case round =>
  obtain ⟨rfl, rfl, hb⟩ := hrel
  go_wp2
  go_ret
  exact ⟨rfl, hb⟩
set_option maxRecDepth 100000 in
theorem rAt_nil (W : World) (rm : Nat) (x : Int) (h : W.heap[rm]? = some (.cells rmZ 87 (0, 0))) : Calls Tryz.prog 59 #[.pointer (some ⟨rm, 0, none⟩), .int .i64 x] W fun e W' => e = .returned (.int .i64 (-1)) /\ W' = W := by
 have c0 : W.cell? ⟨rm, 0, none⟩ = some (.slice none 0 0) := by simp only [World.cell?, h]; rfl
 clear h
 go_enter Tryz.func59, Tryz.ntmps59
 go_wp2
 go_loopw [12] (fun y wr => y = .int .i64 0 /\ wr = W) (fun _ _ => 0)
 case atStart => exact ⟨rfl, rfl⟩
 case round =>
  obtain ⟨rfl, rfl⟩ := hrel
  go_wp2
  go_ret
  exact ⟨rfl, rfl⟩
def ids3 (r c t : Int) : List Int := [r, c, t]
theorem all3_id (r c t : Int) (k : Nat) (hk : k < 3) : (all3 r c t)[k * 38]? = some (.int .i64 ((ids3 r c t).getD k 0)) := by
 match k, hk with
 | 0, _ => rfl
 | 1, _ => rfl
 | 2, _ => rfl
set_option maxRecDepth 100000 in
set_option maxHeartbeats 2000000 in
theorem kAt_any (W : World) (kb al : Nat) (r c t x : Int) (i : Nat) (hi : i < 3) (hx : (ids3 r c t).getD i 0 = x) (hno : ∀ j, j < i -> (ids3 r c t).getD j 0 ≠ x) (hc : W.cell? ⟨kb, 2, none⟩ = some (.slice (some ⟨al, 0, none⟩) 3 3)) (ha : W.heap[al]? = some (.cells (all3 r c t).toArray 91 (0, 0))) :
 Calls Tryz.prog 55 #[.pointer (some ⟨kb, 0, none⟩), .int .i64 x] W fun e W' => e = .returned (.int .i64 i) /\ W' = W := by
 have HA : Hid (∀ k, k < 3 -> W.cell? ⟨al, k * 38, none⟩ = some (.int .i64 ((ids3 r c t).getD k 0))) := Lib.hid (fun k hk => by
  simp only [World.cell?, ha]
  rw [List.getElem?_toArray]
  exact all3_id r c t k hk)
 have HX := Lib.hid hx
 have HN := Lib.hid hno
 clear ha hx hno
 go_enter Tryz.func55, Tryz.ntmps55
 go_wp2
 go_loopw [11] (fun y wr => ∃ k : Nat, y = .int .i64 k /\ k <= i /\ wr = W) (fun y _ => i - (RowKit.intOf y).toNat)
 case atStart => exact ⟨0, rfl, Nat.zero_le _, rfl⟩
 case round =>
  obtain ⟨k, rfl, hk, rfl⟩ := hrel
  have hk3 : (k : Int) < 3 := by omega
  have ck := HA.out k (by omega)
  obtain ⟨y, hy⟩ : ∃ y, (ids3 r c t).getD k 0 = y := ⟨_, rfl⟩
  rw [hy] at ck
  by_cases he : k = i
  · subst he
    have hyx : y = x := by rw [<- hy]; exact HX.out
    subst hyx
    clear hy
    go_wp2
    go_ret
    exact ⟨rfl, rfl⟩
  · have hyx : (y == x) = false := by have := HN.out k (by omega); rw [hy] at this; simpa using this
    clear hy
    go_wp2
    go_roundw
    case rel => exact ⟨k + 1, by go_num, by omega, by first | rfl | trivial⟩
    case measure => simp [RowKit.intOf]; omega
end Go.Proofs.YtmgfakfiiaeofaaGreat
/- What Has, List and Shift of the reference do. -/
namespace Go.Proofs.YtmgfakfiiaeofaaGreat.Ho
open Go.RowKit Go.Sort
section
variable {w : World} {rb g cap : Nat} {cs : Array Value} {root : Int} {L : List Th} {F : Nat -> Prop} {S : Abs} {K : List Int} {rt : Int}
def listS (S : Abs) (i : Int) : List Int := match S i with
 | none => []
 | some o => if o.kind = 1 then o.ents else []
end
section
variable {w : World} {rb g cap : Nat} {cs : Array Value} {root : Int} {L : List Th} {F : Nat -> Prop} {S : Abs} {K : List Int} {rt : Int}
set_option maxRecDepth 100000 in
set_option maxHeartbeats 2000000 in
theorem rList_o (h : RS w rb g cap cs root L F) (hr : RelD S L []) (i : Int) :
 Calls Tryz.prog 57 #[.pointer (some ⟨rb, 0, none⟩), .int .i64 i] w fun e w' => ∃ p c, e = .returned (.tuple #[.slice p (listS S i).length c, .int .i64 (contS S i)]) /\ IntsAt w p (listS S i) /\ Off F p (listS S i).length /\ w' = w := by
 obtain ⟨h0, h1⟩ := h.hd
 have hLn := h.lim.1
 have nil : IntsAt w none [] := fun j hj => by simp at hj
 cases hS : S i with
 | none =>
  have HB := Lib.hid (rbox_none h i (hr.nopos hS))
  have HE : Hid (listS S i = [] /\ contS S i = 4) := by simp only [Hid]; unfold listS contS; rw [hS]; exact ⟨rfl, rfl⟩
  clear h hr
  go_enter Tryz.func57, Tryz.ntmps57
  go_wp2_with (go_at_call 42; with_reducible refine Calls.mono HB.out ?_; rintro e w' ⟨rfl, hw'⟩; rw [hw']; clear hw' w')
  go_ret2
  rw [HE.out.1, HE.out.2]
  exact ⟨none, 0, rfl, nil, fun h => by simp at h, rfl⟩
 | some o =>
  obtain ⟨k, hk, e, m⟩ := hr.pos hS
  have HB := Lib.hid (rbox_some h i k hk e)
  rw [<- m.1] at HB
  obtain ⟨_, _, _, _, _, c5⟩ := h.six hk
  have hI := (h.cat _ (List.getElem_mem hk)).2
  have hF : Off F L[k].lp L[k].ents.length := fun hn a ha hf => (h.out _ (List.getElem_mem hk)).2 hn a ha (.inr (.inr hf))
  rw [<- m.2.2.2.2] at c5 hI hF
  have HF := Lib.hid hF
  have HI := Lib.hid hI
  have hki : (k : Int) < (L.length : Int) := by omega
  generalize L[k].lp = lp at c5 HI HF
  generalize L[k].lc = lc at c5
  clear h hr hI hF m e
  by_cases hk1 : o.kind = 1
  · rw [if_pos hk1] at HB
    have HE : Hid (listS S i = o.ents /\ contS S i = 0) := by simp only [Hid]; unfold listS contS; rw [hS]; exact ⟨if_pos hk1, if_pos hk1⟩
    go_enter Tryz.func57, Tryz.ntmps57
    go_wp2_with (first | (go_at_call 42; with_reducible refine Calls.mono HB.out ?_; rintro e w' ⟨rfl, hw'⟩; rw [hw']; clear hw' w'))
    go_ret2
    rw [HE.out.1, HE.out.2]
    exact ⟨lp, lc, rfl, HI.out, HF.out, rfl⟩
  · rw [if_neg hk1] at HB
    have HE : Hid (listS S i = [] /\ contS S i = 5) := by simp only [Hid]; unfold listS contS; rw [hS]; exact ⟨if_neg hk1, if_neg hk1⟩
    go_enter Tryz.func57, Tryz.ntmps57
    go_wp2_with (first | (go_at_call 42; with_reducible refine Calls.mono HB.out ?_; rintro e w' ⟨rfl, hw'⟩; rw [hw']; clear hw' w'))
    go_ret2
    rw [HE.out.1, HE.out.2]
    exact ⟨none, 0, rfl, nil, fun h => by simp at h, rfl⟩
end
end Go.Proofs.YtmgfakfiiaeofaaGreat.Ho
