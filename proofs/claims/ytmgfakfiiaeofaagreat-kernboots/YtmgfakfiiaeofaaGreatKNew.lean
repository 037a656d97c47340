/- What New of package kern makes. -/
import Derived.Test.YtmgfakfiiaeofaaGreatSq
namespace Go.Proofs.YtmgfakfiiaeofaaGreat
open Go.RowKit Go.Sort
def KDev (W : World) (K : Kn) (c : Int) : Prop := ∃ B, Wa.MAt W 3 K.md 1 (Wa.updF (fun _ => none) (Wa.ky c) (some B)) /\ W.heap[B]? = some (.cells dvZ 76 (0, 0)) /\ K.own B = some (.dv c)
set_option maxRecDepth 100000 in
set_option maxHeartbeats 4000000 in
theorem New_any (r c t : Int) (w : World) (hr : Ho.isCt r = true) (hc : Ho.isCt c = true) (ht : Ho.isCt t = true) (h1 : r ≠ c) (h2 : r ≠ t) (h3 : c ≠ t) :
 Calls Tryz.prog 5 #[.agg #[.int .i64 r, .int .i64 c, .int .i64 t]] w fun e w' => ∃ K, e = .returned (.tuple #[.pointer (some ⟨K.kb, 0, none⟩), .int .i64 0]) /\ KAt w.heap.size w' K /\ KFirst K r c t /\ Below w.heap.size w w' /\ KDev w' K c := by
 obtain ⟨Wa1, hWa⟩ : ∃ Wa1, w.alloc (.cells #[.int .i64 r, .int .i64 c, .int .i64 t] 23) = Wa1 := ⟨_, rfl⟩
 have hba : Below w.heap.size w Wa1 := by rw [<- hWa]; exact (Below.refl _ _).alloc (Nat.le_refl _) _
 have hca : Wa1.heap[w.heap.size]? = some (.cells #[.int .i64 r, .int .i64 c, .int .i64 t] 23 (0, 0)) := by rw [<- hWa]; exact heap_alloc_new _ _
 have HC := Lib.hid (canBoot_yes r c t Wa1 hr hc ht h1 h2 h3)
 have q0 : Wa1.cell? ⟨w.heap.size, 0, none⟩ = some (.int .i64 r) := by simp [World.cell?, hca]
 have q1 : Wa1.cell? ⟨w.heap.size, 1, none⟩ = some (.int .i64 c) := by simp [World.cell?, hca]
 have q2 : Wa1.cell? ⟨w.heap.size, 2, none⟩ = some (.int .i64 t) := by simp [World.cell?, hca]
 have HBa := Lib.hid hba
 obtain ⟨b0, hb0⟩ : ∃ b0, w.heap.size = b0 := ⟨_, rfl⟩
 have hz : b0 < Wa1.heap.size := by rw [<- hb0, <- hWa]; simp
 have Hb0 := Lib.hid hb0
 go_enter Tryz.func5, Tryz.ntmps5
 rw [hb0] at q0 q1 q2 HBa
 clear hba hca
 go_upto_region 1 with fail
 try rw [hWa]
 try rw [hb0]
 clear hWa hb0
 go_wp2_with (go_at_call 13; refine HC.out.mono ?_; rintro e w1 ⟨rfl, hb1⟩; refine Hid.out ?_)
 refine Lib.hid ?_
 have r0 := (hb1.cell (p := ⟨b0, 0, none⟩) hz).trans q0
 have r1 := (hb1.cell (p := ⟨b0, 1, none⟩) hz).trans q1
 have r2 := (hb1.cell (p := ⟨b0, 2, none⟩) hz).trans q2
 have HB1 := Lib.hid (HBa.out.trans (hb1.mono (Nat.le_of_lt hz)))
 have hz1 : b0 < w1.heap.size := Nat.lt_of_lt_of_le hz hb1.size
 clear q0 q1 q2 hb1 HC HBa
 go_upto_region 4 with fail
 obtain ⟨W2, hW2⟩ : ∃ W2, w1.alloc (.cells #[.int .i64 2, .slice none 0 0] 46) = W2 := ⟨_, rfl⟩
 have hb2 : Below w1.heap.size w1 W2 := by rw [<- hW2]; exact (Below.refl _ _).alloc (Nat.le_refl _) _
 have hl2 : W2.heap[w1.heap.size]? = some (.cells #[.int .i64 2, .slice none 0 0] 46 (0, 0)) := by rw [<- hW2]; exact heap_alloc_new _ _
 have hzl : w1.heap.size < W2.heap.size := by rw [<- hW2]; simp
 rw [hW2]
 have s0 := (hb2.cell (p := ⟨b0, 0, none⟩) hz1).trans r0
 have s1 := (hb2.cell (p := ⟨b0, 1, none⟩) hz1).trans r1
 have s2 := (hb2.cell (p := ⟨b0, 2, none⟩) hz1).trans r2
 have s3 : W2.cell? ⟨w1.heap.size, 0, none⟩ = some (.int .i64 2) := by simp [World.cell?, hl2]
 have s4 : W2.cell? ⟨w1.heap.size, 1, none⟩ = some (.slice none 0 0) := by simp [World.cell?, hl2]
 have hzb : b0 < W2.heap.size := Nat.lt_of_lt_of_le hz1 (Nat.le_of_lt hzl)
 have HB2 := Lib.hid (HB1.out.trans (hb2.mono (Nat.le_of_lt hz1)))
 obtain ⟨l0, hl0⟩ : ∃ l0, w1.heap.size = l0 := ⟨_, rfl⟩
 rw [hl0] at s3 s4 hzl |-
 have HS : Hid (∀ W, Below W2.heap.size W2 W -> (W.cell? ⟨b0, 0, none⟩ = some (.int .i64 r) /\ W.cell? ⟨b0, 1, none⟩ = some (.int .i64 c) /\ W.cell? ⟨b0, 2, none⟩ = some (.int .i64 t)) /\ W.cell? ⟨l0, 0, none⟩ = some (.int .i64 2) /\ W.cell? ⟨l0, 1, none⟩ = some (.slice none 0 0)) := Lib.hid (fun W hb => ⟨⟨(hb.cell (p := ⟨b0, 0, none⟩) hzb).trans s0, (hb.cell (p := ⟨b0, 1, none⟩) hzb).trans s1, (hb.cell (p := ⟨b0, 2, none⟩) hzb).trans s2⟩, (hb.cell (p := ⟨l0, 0, none⟩) hzl).trans s3, (hb.cell (p := ⟨l0, 1, none⟩) hzl).trans s4⟩)
 have hmm := @run_makeMap Tryz.prog
 have HNw := Lib.hid (fun (p : Option Addr) W => Ho.New_any r 2 p 0 [] W (by simp) (fun j h => by simp at h) hr (by decide))
 have HRm := Lib.hid Wa.New_any
 clear r0 r1 r2 s0 s1 s2 s3 s4 hW2 hl2 hl0 hb2 hz hz1 HB1
 refine Ko.wp_region_own ntgt (NG r c t b0 W2.heap.size) (by kernel_rfl) (by kernel_rfl) (by kernel_rfl) (NG_loc r c t b0 _ rfl rfl rfl rfl rfl rfl rfl rfl rfl rfl rfl rfl rfl rfl rfl) ?_ ?_ ?_
 · intro a' X own li hB hs hk hown i o d ho hd hdn hG
   match i, ho with
   | 0, ho =>
    cases ho
    obtain rfl : 10 = d := Option.some.inj hd
    have g1 : a'.eval (.tmp 1) = .pointer (some ⟨b0, 0, none⟩) := hk 1 (by kernel_rfl)
    generalize a'.eval = ev at g1 |-
    clear hG hk hdn
    obtain ⟨⟨y0, y1, y2⟩, y3, y4⟩ := HS.out X hB
    exact ⟨rfl, .inl ⟨.pointer (some ⟨b0, 0, none⟩), X, by clear hs; go_simp, Below.refl _ _, fun own' env' li' F => F.val⟩⟩
   | 1, ho =>
    cases ho
    obtain rfl : 11 = d := Option.some.inj hd
    have g10 : a'.eval (.tmp 10) = .pointer (some ⟨b0, 0, none⟩) := hG 0 10 (hdn ⟨0, .data⟩ (by simp) rfl) rfl
    generalize a'.eval = ev at g10 |-
    clear hG hk hdn
    obtain ⟨⟨y0, y1, y2⟩, y3, y4⟩ := HS.out X hB
    exact ⟨rfl, .inl ⟨.int .i64 r, X, by clear hs; go_simp, Below.refl _ _, fun own' env' li' F => F.val⟩⟩
   | 2, ho =>
    cases ho
    obtain rfl : 12 = d := Option.some.inj hd
    have g4 : a'.eval (.tmp 4) = .pointer (some ⟨l0, 0, none⟩) := hk 4 (by kernel_rfl)
    generalize a'.eval = ev at g4 |-
    clear hG hk hdn
    obtain ⟨⟨y0, y1, y2⟩, y3, y4⟩ := HS.out X hB
    exact ⟨rfl, .inl ⟨.agg #[.int .i64 2, .slice none 0 0], X, by clear hs; go_simp, Below.refl _ _, fun own' env' li' F => F.val⟩⟩
   | 3, ho =>
    cases ho
    obtain rfl : 13 = d := Option.some.inj hd
    have g11 : a'.eval (.tmp 11) = .int .i64 r := hG 1 11 (hdn ⟨1, .data⟩ (by simp) rfl) rfl
    have g12 : a'.eval (.tmp 12) = .agg #[.int .i64 2, .slice none 0 0] := hG 2 12 (hdn ⟨2, .data⟩ (by simp) rfl) rfl
    refine ⟨rfl, .inr ⟨14, #[.int .i64 r, .agg #[.int .i64 2, .slice none 0 0]], ?_, ?_⟩⟩
    · have gF : a'.eval (.func 14) = .func (.func 14) #[] #[] := rfl
      generalize a'.eval = ev at gF g11 g12 |-
      exact exec_call2 rfl gF g11 g12 (enters_of Tryz.func14 (by kernel_rfl) rfl)
    · refine (HNw.out none X).mono ?_
      rintro e W' ⟨tb, mb, D, rr, rfl, hA, hrr, hsz, hbl⟩
      exact ⟨_, rfl, hbl, fun own' env' li' F => ⟨X.heap.size, tb, mb, D, rr, F.val, hB.size, hA, hrr, hsz, fun k hk => F.own k (hA.lt hk).1 (hA.lt hk).2⟩⟩
   | 4, ho =>
    cases ho
    obtain rfl : 14 = d := Option.some.inj hd
    refine ⟨rfl, .inr ⟨15, #[], ?_, ?_⟩⟩
    · have gF : a'.eval (.func 15) = .func (.func 15) #[] #[] := rfl
      generalize a'.eval = ev at gF |-
      exact exec_call0 rfl gF (enters_of Tryz.func15 (by kernel_rfl) rfl)
    · refine (HRm.out X).mono ?_
      rintro e W' ⟨rb, F0, rfl, hR, hbl, hlo, hhi⟩
      exact ⟨_, rfl, hbl, fun own' env' li' F => ⟨rb, F0, F.val, hR, hhi, fun k hk => F.own k (hlo k hk) (hhi k hk)⟩⟩
   | 5, ho =>
    cases ho
    obtain rfl : 15 = d := Option.some.inj hd
    refine ⟨rfl, .inl ⟨.map (some X.heap.size), X.alloc (.map #[] 0), by clear hs hG hk hdn; go_simp, (Below.refl _ _).alloc (Nat.le_refl _) _, fun own' env' li' F => ?_⟩⟩
    exact ⟨X.heap.size, F.val, F.own _ (Nat.le_refl _) (by simp), (MapKept.heap_alloc X _).1⟩
   | 6, ho =>
    cases ho
    obtain rfl : 16 = d := Option.some.inj hd
    refine ⟨rfl, .inl ⟨.map (some X.heap.size), X.alloc (.map #[] 0), by clear hs hG hk hdn; go_simp, (Below.refl _ _).alloc (Nat.le_refl _) _, fun own' env' li' F => ?_⟩⟩
    exact ⟨X.heap.size, F.val, F.own _ (Nat.le_refl _) (by simp), (MapKept.heap_alloc X _).1⟩
   | 7, ho =>
    cases ho
    obtain rfl : 17 = d := Option.some.inj hd
    refine ⟨rfl, .inl ⟨.map (some X.heap.size), X.alloc (.map #[] 0), by clear hs hG hk hdn; go_simp, (Below.refl _ _).alloc (Nat.le_refl _) _, fun own' env' li' F => ?_⟩⟩
    exact ⟨X.heap.size, F.val, F.own _ (Nat.le_refl _) (by simp), by rw [if_neg (by rw [F.ins 13 rfl]; decide)]; exact (MapKept.heap_alloc X _).1⟩
   | 8, ho =>
    cases ho
    obtain rfl : 18 = d := Option.some.inj hd
    have g1 : a'.eval (.tmp 1) = .pointer (some ⟨b0, 0, none⟩) := hk 1 (by kernel_rfl)
    generalize a'.eval = ev at g1 |-
    clear hG hk hdn
    obtain ⟨⟨y0, y1, y2⟩, y3, y4⟩ := HS.out X hB
    exact ⟨rfl, .inl ⟨.pointer (some ⟨b0, 2, none⟩), X, by clear hs; go_simp, Below.refl _ _, fun own' env' li' F => F.val⟩⟩
   | 9, ho =>
    cases ho
    obtain rfl : 19 = d := Option.some.inj hd
    have g18 : a'.eval (.tmp 18) = .pointer (some ⟨b0, 2, none⟩) := hG 8 18 (hdn ⟨8, .data⟩ (by simp) rfl) rfl
    generalize a'.eval = ev at g18 |-
    clear hG hk hdn
    obtain ⟨⟨y0, y1, y2⟩, y3, y4⟩ := HS.out X hB
    exact ⟨rfl, .inl ⟨.int .i64 t, X, by clear hs; go_simp, Below.refl _ _, fun own' env' li' F => F.val⟩⟩
   | 10, ho =>
    cases ho
    obtain rfl : 20 = d := Option.some.inj hd
    have k0 : a'.eval (.const (.int .i64 4)) = (.int .i64 4) := rfl
    generalize a'.eval = ev at k0 |-
    clear hG hk hdn
    obtain ⟨⟨y0, y1, y2⟩, y3, y4⟩ := HS.out X hB
    exact ⟨rfl, .inl ⟨.agg #[.int .i64 4, .slice none 0 0], X, by clear hs; go_simp, Below.refl _ _, fun own' env' li' F => F.val⟩⟩
   | 11, ho =>
    cases ho
    obtain rfl : 21 = d := Option.some.inj hd
    have g20 : a'.eval (.tmp 20) = .agg #[.int .i64 4, .slice none 0 0] := hG 10 20 (hdn ⟨10, .data⟩ (by simp) rfl) rfl
    generalize a'.eval = ev at g20 |-
    clear hG hk hdn
    obtain ⟨⟨y0, y1, y2⟩, y3, y4⟩ := HS.out X hB
    exact ⟨rfl, .inl ⟨.agg thZ, X, by clear hs; unfold thZ; go_simp, Below.refl _ _, fun own' env' li' F => F.val⟩⟩
   | 12, ho =>
    cases ho
    obtain rfl : 22 = d := Option.some.inj hd
    have g21 : a'.eval (.tmp 21) = .agg thZ := hG 11 21 (hdn ⟨11, .data⟩ (by simp) rfl) rfl
    generalize a'.eval = ev at g21 |-
    clear hG hk hdn
    refine ⟨rfl, .inl ⟨.pointer (some ⟨X.heap.size, 0, none⟩), X.alloc (.cells thZ 70), by clear hs; go_simp, (Below.refl _ _).alloc (Nat.le_refl _) _, fun own' env' li' F => ?_⟩⟩
    exact ⟨X.heap.size, F.val, F.own _ (Nat.le_refl _) (by simp), heap_alloc_new _ _⟩
   | 13, ho =>
    cases ho
    exact absurd hd (by simp)
   | 14, ho =>
    cases ho
    obtain rfl : 23 = d := Option.some.inj hd
    have hd1 : li.getD 7 false = true := hdn ⟨7, .data⟩ (by simp) rfl
    have hd2 : li.getD 13 false = true := hdn ⟨13, .data⟩ (by simp) rfl
    obtain ⟨x, hx⟩ : ∃ x, a'.eval (.tmp 17) = x := ⟨_, rfl⟩
    refine ⟨rfl, .inl ⟨x, X, ?_, Below.refl _ _, fun own' env' li' F => ?_⟩⟩
    · generalize a'.eval = ev at hx |-
      clear hG hk hdn hs
      go_simp
    exact ⟨F.done _ hd1, F.done _ hd2, by rw [F.val, F.env 17 (by decide)]; exact hx.symm⟩
   | 15, ho =>
    cases ho
    obtain rfl : 24 = d := Option.some.inj hd
    refine ⟨rfl, .inl ⟨.map (some X.heap.size), X.alloc (.map #[] 0), by clear hs hG hk hdn; go_simp, (Below.refl _ _).alloc (Nat.le_refl _) _, fun own' env' li' F => ?_⟩⟩
    exact ⟨X.heap.size, F.val, F.own _ (Nat.le_refl _) (by simp), (MapKept.heap_alloc X _).1⟩
   | 16, ho =>
    cases ho
    obtain rfl : 25 = d := Option.some.inj hd
    refine ⟨rfl, .inl ⟨.map (some X.heap.size), X.alloc (.map #[] 0), by clear hs hG hk hdn; go_simp, (Below.refl _ _).alloc (Nat.le_refl _) _, fun own' env' li' F => ?_⟩⟩
    exact ⟨X.heap.size, F.val, F.own _ (Nat.le_refl _) (by simp), by rw [if_neg (by rw [F.ins 21 rfl]; decide)]; exact (MapKept.heap_alloc X _).1⟩
   | 17, ho =>
    cases ho
    obtain rfl : 26 = d := Option.some.inj hd
    have g1 : a'.eval (.tmp 1) = .pointer (some ⟨b0, 0, none⟩) := hk 1 (by kernel_rfl)
    generalize a'.eval = ev at g1 |-
    clear hG hk hdn
    obtain ⟨⟨y0, y1, y2⟩, y3, y4⟩ := HS.out X hB
    exact ⟨rfl, .inl ⟨.pointer (some ⟨b0, 1, none⟩), X, by clear hs; go_simp, Below.refl _ _, fun own' env' li' F => F.val⟩⟩
   | 18, ho =>
    cases ho
    obtain rfl : 27 = d := Option.some.inj hd
    have g26 : a'.eval (.tmp 26) = .pointer (some ⟨b0, 1, none⟩) := hG 17 26 (hdn ⟨17, .data⟩ (by simp) rfl) rfl
    generalize a'.eval = ev at g26 |-
    clear hG hk hdn
    obtain ⟨⟨y0, y1, y2⟩, y3, y4⟩ := HS.out X hB
    exact ⟨rfl, .inl ⟨.int .i64 c, X, by clear hs; go_simp, Below.refl _ _, fun own' env' li' F => F.val⟩⟩
   | 19, ho =>
    cases ho
    obtain rfl : 28 = d := Option.some.inj hd
    generalize a'.eval = ev
    clear hG hk hdn
    obtain ⟨⟨y0, y1, y2⟩, y3, y4⟩ := HS.out X hB
    exact ⟨rfl, .inl ⟨.agg dvZ, X, by clear hs; unfold dvZ; go_simp, Below.refl _ _, fun own' env' li' F => F.val⟩⟩
   | 20, ho =>
    cases ho
    obtain rfl : 29 = d := Option.some.inj hd
    have g28 : a'.eval (.tmp 28) = .agg dvZ := hG 19 28 (hdn ⟨19, .data⟩ (by simp) rfl) rfl
    generalize a'.eval = ev at g28 |-
    clear hG hk hdn
    refine ⟨rfl, .inl ⟨.pointer (some ⟨X.heap.size, 0, none⟩), X.alloc (.cells dvZ 76), by clear hs; go_simp, (Below.refl _ _).alloc (Nat.le_refl _) _, fun own' env' li' F => ?_⟩⟩
    exact ⟨X.heap.size, F.val, F.own _ (Nat.le_refl _) (by simp), heap_alloc_new _ _⟩
   | 21, ho =>
    cases ho
    exact absurd hd (by simp)
   | 22, ho =>
    cases ho
    obtain rfl : 30 = d := Option.some.inj hd
    have hd1 : li.getD 16 false = true := hdn ⟨16, .data⟩ (by simp) rfl
    have hd2 : li.getD 21 false = true := hdn ⟨21, .data⟩ (by simp) rfl
    obtain ⟨x, hx⟩ : ∃ x, a'.eval (.tmp 25) = x := ⟨_, rfl⟩
    refine ⟨rfl, .inl ⟨x, X, ?_, Below.refl _ _, fun own' env' li' F => ?_⟩⟩
    · generalize a'.eval = ev at hx |-
      clear hG hk hdn hs
      go_simp
    exact ⟨F.done _ hd1, F.done _ hd2, by rw [F.val, F.env 25 (by decide)]; exact hx.symm⟩
   | 23, ho =>
    cases ho
    obtain rfl : 31 = d := Option.some.inj hd
    refine ⟨rfl, .inl ⟨.map (some X.heap.size), X.alloc (.map #[] 0), by clear hs hG hk hdn; go_simp, (Below.refl _ _).alloc (Nat.le_refl _) _, fun own' env' li' F => ?_⟩⟩
    refine ⟨X.heap.size, fun _ => false, F.val, F.own _ (Nat.le_refl _) (by simp), ?_, fun k => ?_⟩
    · rw [F.ins 27 rfl, F.ins 31 rfl, F.ins 35 rfl]; exact SAt.made (MapKept.heap_alloc X _).1
    · rw [F.ins 27 rfl, F.ins 31 rfl, F.ins 35 rfl]; rfl
   | 24, ho =>
    cases ho
    obtain rfl : 32 = d := Option.some.inj hd
    have g1 : a'.eval (.tmp 1) = .pointer (some ⟨b0, 0, none⟩) := hk 1 (by kernel_rfl)
    generalize a'.eval = ev at g1 |-
    clear hG hk hdn
    obtain ⟨⟨y0, y1, y2⟩, y3, y4⟩ := HS.out X hB
    exact ⟨rfl, .inl ⟨.pointer (some ⟨b0, 0, none⟩), X, by clear hs; go_simp, Below.refl _ _, fun own' env' li' F => F.val⟩⟩
   | 25, ho =>
    cases ho
    obtain rfl : 33 = d := Option.some.inj hd
    have g32 : a'.eval (.tmp 32) = .pointer (some ⟨b0, 0, none⟩) := hG 24 32 (hdn ⟨24, .data⟩ (by simp) rfl) rfl
    generalize a'.eval = ev at g32 |-
    clear hG hk hdn
    obtain ⟨⟨y0, y1, y2⟩, y3, y4⟩ := HS.out X hB
    exact ⟨rfl, .inl ⟨.int .i64 r, X, by clear hs; go_simp, Below.refl _ _, fun own' env' li' F => F.val⟩⟩
   | 26, ho =>
    cases ho
    obtain rfl : 34 = d := Option.some.inj hd
    generalize a'.eval = ev
    clear hG hk hdn
    obtain ⟨⟨y0, y1, y2⟩, y3, y4⟩ := HS.out X hB
    exact ⟨rfl, .inl ⟨.agg #[], X, by clear hs; go_simp, Below.refl _ _, fun own' env' li' F => F.val⟩⟩
   | 27, ho =>
    cases ho
    exact absurd hd (by simp)
   | 28, ho =>
    cases ho
    obtain rfl : 35 = d := Option.some.inj hd
    have g1 : a'.eval (.tmp 1) = .pointer (some ⟨b0, 0, none⟩) := hk 1 (by kernel_rfl)
    generalize a'.eval = ev at g1 |-
    clear hG hk hdn
    obtain ⟨⟨y0, y1, y2⟩, y3, y4⟩ := HS.out X hB
    exact ⟨rfl, .inl ⟨.pointer (some ⟨b0, 1, none⟩), X, by clear hs; go_simp, Below.refl _ _, fun own' env' li' F => F.val⟩⟩
   | 29, ho =>
    cases ho
    obtain rfl : 36 = d := Option.some.inj hd
    have g35 : a'.eval (.tmp 35) = .pointer (some ⟨b0, 1, none⟩) := hG 28 35 (hdn ⟨28, .data⟩ (by simp) rfl) rfl
    generalize a'.eval = ev at g35 |-
    clear hG hk hdn
    obtain ⟨⟨y0, y1, y2⟩, y3, y4⟩ := HS.out X hB
    exact ⟨rfl, .inl ⟨.int .i64 c, X, by clear hs; go_simp, Below.refl _ _, fun own' env' li' F => F.val⟩⟩
   | 30, ho =>
    cases ho
    obtain rfl : 37 = d := Option.some.inj hd
    generalize a'.eval = ev
    clear hG hk hdn
    obtain ⟨⟨y0, y1, y2⟩, y3, y4⟩ := HS.out X hB
    exact ⟨rfl, .inl ⟨.agg #[], X, by clear hs; go_simp, Below.refl _ _, fun own' env' li' F => F.val⟩⟩
   | 31, ho =>
    cases ho
    exact absurd hd (by simp)
   | 32, ho =>
    cases ho
    obtain rfl : 38 = d := Option.some.inj hd
    have g1 : a'.eval (.tmp 1) = .pointer (some ⟨b0, 0, none⟩) := hk 1 (by kernel_rfl)
    generalize a'.eval = ev at g1 |-
    clear hG hk hdn
    obtain ⟨⟨y0, y1, y2⟩, y3, y4⟩ := HS.out X hB
    exact ⟨rfl, .inl ⟨.pointer (some ⟨b0, 2, none⟩), X, by clear hs; go_simp, Below.refl _ _, fun own' env' li' F => F.val⟩⟩
   | 33, ho =>
    cases ho
    obtain rfl : 39 = d := Option.some.inj hd
    have g38 : a'.eval (.tmp 38) = .pointer (some ⟨b0, 2, none⟩) := hG 32 38 (hdn ⟨32, .data⟩ (by simp) rfl) rfl
    generalize a'.eval = ev at g38 |-
    clear hG hk hdn
    obtain ⟨⟨y0, y1, y2⟩, y3, y4⟩ := HS.out X hB
    exact ⟨rfl, .inl ⟨.int .i64 t, X, by clear hs; go_simp, Below.refl _ _, fun own' env' li' F => F.val⟩⟩
   | 34, ho =>
    cases ho
    obtain rfl : 40 = d := Option.some.inj hd
    generalize a'.eval = ev
    clear hG hk hdn
    obtain ⟨⟨y0, y1, y2⟩, y3, y4⟩ := HS.out X hB
    exact ⟨rfl, .inl ⟨.agg #[], X, by clear hs; go_simp, Below.refl _ _, fun own' env' li' F => F.val⟩⟩
   | 35, ho =>
    cases ho
    exact absurd hd (by simp)
   | 36, ho =>
    cases ho
    obtain rfl : 41 = d := Option.some.inj hd
    have hd1 : li.getD 23 false = true := hdn ⟨23, .data⟩ (by simp) rfl
    obtain ⟨x, hx⟩ : ∃ x, a'.eval (.tmp 31) = x := ⟨_, rfl⟩
    refine ⟨rfl, .inl ⟨x, X, ?_, Below.refl _ _, fun own' env' li' F => ?_⟩⟩
    · generalize a'.eval = ev at hx |-
      clear hG hk hdn hs
      go_simp
    exact ⟨F.done _ hd1, by rw [F.val, F.env 31 (by decide)]; exact hx.symm⟩
   | 37, ho =>
    cases ho
    obtain rfl : 42 = d := Option.some.inj hd
    have d13 : li.getD 3 false = true := hdn ⟨3, .data⟩ (by simp) rfl
    have d14 : li.getD 4 false = true := hdn ⟨4, .data⟩ (by simp) rfl
    have d15 : li.getD 5 false = true := hdn ⟨5, .data⟩ (by simp) rfl
    have dq16 : li.getD 6 false = true := hdn ⟨6, .data⟩ (by simp) rfl
    have d23 : li.getD 14 false = true := hdn ⟨14, .data⟩ (by simp) rfl
    have d24 : li.getD 15 false = true := hdn ⟨15, .data⟩ (by simp) rfl
    have d30 : li.getD 22 false = true := hdn ⟨22, .data⟩ (by simp) rfl
    have d41 : li.getD 36 false = true := hdn ⟨36, .data⟩ (by simp) rfl
    obtain ⟨b13, tb, mb, D, rr, e13, -⟩ : NTab W2.heap.size r (a'.eval (.tmp 13)) X own := hG 3 13 d13 rfl
    obtain ⟨rb, F0, e14, -⟩ : NRms (a'.eval (.tmp 14)) X own := hG 4 14 d14 rfl
    obtain ⟨m15, e15, -⟩ : NEmp 15 (a'.eval (.tmp 15)) X own := hG 5 15 d15 rfl
    obtain ⟨m16, e16, -⟩ : NEmp 16 (a'.eval (.tmp 16)) X own := hG 6 16 dq16 rfl
    obtain ⟨m24, e24, -⟩ : NEmp 24 (a'.eval (.tmp 24)) X own := hG 15 24 d24 rfl
    obtain ⟨d7, d13', e23⟩ : li.getD 7 false = true /\ li.getD 13 false = true /\ a'.eval (.tmp 23) = a'.eval (.tmp 17) := hG 14 23 d23 rfl
    obtain ⟨m17, e17, -⟩ : NFil 17 13 12 22 t own (fun k => a'.eval (.tmp k)) li X := hG 7 17 d7 rfl
    obtain ⟨d16, d21', e30⟩ : li.getD 16 false = true /\ li.getD 21 false = true /\ a'.eval (.tmp 30) = a'.eval (.tmp 25) := hG 22 30 d30 rfl
    obtain ⟨m25, e25, -⟩ : NFil 25 21 20 29 c own (fun k => a'.eval (.tmp k)) li X := hG 16 25 d16 rfl
    obtain ⟨dd23, e41⟩ : li.getD 23 false = true /\ a'.eval (.tmp 41) = a'.eval (.tmp 31) := hG 36 41 d41 rfl
    obtain ⟨m31, S31, e31, -⟩ : NSet r c t own (fun k => a'.eval (.tmp k)) li X := hG 23 31 dd23 rfl
    simp only at e17 e25 e31
    rw [e17] at e23; rw [e25] at e30; rw [e31] at e41
    refine ⟨rfl, .inl ⟨.agg (knV (Wa.pv tb) (Wa.pv rb) (.map (some m15)) (.map (some m16)) (.map (some m17)) (.map (some m24)) (.map (some m25)) (.map (some m31))), X, ?_, Below.refl _ _, fun own' env' li' F => ⟨⟨F.done _ d13, F.done _ d14, F.done _ d15, F.done _ dq16⟩, ⟨F.done _ d23, F.done _ d24, F.done _ d30, F.done _ d41⟩, ?_⟩⟩⟩
    · generalize a'.eval = ev at e13 e14 e15 e16 e23 e24 e30 e41 |-
      clear hG hk hdn hs e17 e25 e31
      unfold knV
      go_simp
    rw [F.val, F.env 13 (by decide), F.env 14 (by decide), F.env 15 (by decide), F.env 16 (by decide), F.env 23 (by decide), F.env 24 (by decide), F.env 30 (by decide), F.env 41 (by decide), e13, e14, e15, e16, e23, e24, e30, e41]
   | 38, ho =>
    cases ho
    obtain rfl : 43 = d := Option.some.inj hd
    have d37 : li.getD 37 false = true := hdn ⟨37, .data⟩ (by simp) rfl
    obtain ⟨-, -, e42⟩ : (li.getD 3 false = true /\ li.getD 4 false = true /\ li.getD 5 false = true /\ li.getD 6 false = true) /\ (li.getD 14 false = true /\ li.getD 15 false = true /\ li.getD 22 false = true /\ li.getD 36 false = true) /\ a'.eval (.tmp 42) = .agg (knV (a'.eval (.tmp 13)) (a'.eval (.tmp 14)) (a'.eval (.tmp 15)) (a'.eval (.tmp 16)) (a'.eval (.tmp 23)) (a'.eval (.tmp 24)) (a'.eval (.tmp 30)) (a'.eval (.tmp 41))) := hG 37 42 d37 rfl
    obtain ⟨cs, hcs⟩ : ∃ cs, knV (a'.eval (.tmp 13)) (a'.eval (.tmp 14)) (a'.eval (.tmp 15)) (a'.eval (.tmp 16)) (a'.eval (.tmp 23)) (a'.eval (.tmp 24)) (a'.eval (.tmp 30)) (a'.eval (.tmp 41)) = cs := ⟨_, rfl⟩
    rw [hcs] at e42
    refine ⟨rfl, .inl ⟨.pointer (some ⟨X.heap.size, 0, none⟩), X.alloc (.cells cs 81), ?_, (Below.refl _ _).alloc (Nat.le_refl _) _, fun own' env' li' F => ⟨F.done _ d37, cs, (F.env 42 (by decide)).trans e42, X.heap.size, F.val, F.own _ (Nat.le_refl _) (by simp), heap_alloc_new _ _⟩⟩⟩
    · generalize a'.eval = ev at e42 |-
      clear hG hk hdn hs hcs
      go_simp
   | 39, ho =>
    cases ho
    obtain rfl : 5 = d := Option.some.inj hd
    have d38 : li.getD 38 false = true := hdn ⟨38, .data⟩ (by simp) rfl
    obtain ⟨x, hx⟩ : ∃ x, a'.eval (.tmp 43) = x := ⟨_, rfl⟩
    refine ⟨rfl, .inl ⟨x, X, ?_, Below.refl _ _, fun own' env' li' F => ⟨F.done _ d38, by rw [F.val, F.env 43 (by decide)]; exact hx.symm⟩⟩⟩
    · generalize a'.eval = ev at hx |-
      clear hG hk hdn hs
      go_simp
   | j + 40, ho => simp at ho
 · intro a' X own li hB hk hown i o m ho ht' hli hdn hG
   match i, ho with
   | 0, ho =>
    exact absurd ht' (by simp [ntgt])
   | 1, ho =>
    exact absurd ht' (by simp [ntgt])
   | 2, ho =>
    exact absurd ht' (by simp [ntgt])
   | 3, ho =>
    exact absurd ht' (by simp [ntgt])
   | 4, ho =>
    exact absurd ht' (by simp [ntgt])
   | 5, ho =>
    exact absurd ht' (by simp [ntgt])
   | 6, ho =>
    exact absurd ht' (by simp [ntgt])
   | 7, ho =>
    exact absurd ht' (by simp [ntgt])
   | 8, ho =>
    exact absurd ht' (by simp [ntgt])
   | 9, ho =>
    exact absurd ht' (by simp [ntgt])
   | 10, ho =>
    exact absurd ht' (by simp [ntgt])
   | 11, ho =>
    exact absurd ht' (by simp [ntgt])
   | 12, ho =>
    exact absurd ht' (by simp [ntgt])
   | 13, ho =>
    cases ho
    obtain rfl : 17 = m := Option.some.inj ht'
    have gk : a'.eval (.tmp 19) = .int .i64 t := hG 9 19 (hdn ⟨9, .data⟩ (by simp) rfl) rfl
    obtain ⟨m, em, om, hm⟩ : NFil 17 13 12 22 t own (fun k => a'.eval (.tmp k)) li X := hG 7 17 (hdn ⟨7, .data⟩ (by simp) rfl) rfl
    rw [if_neg (by rw [hli]; decide)] at hm
    have hpd : li.getD 12 false = true := hdn ⟨12, .data⟩ (by simp) rfl
    obtain ⟨B, eB, oB, hBB⟩ : NBox 22 thZ 70 (a'.eval (.tmp 22)) X own := hG 12 22 hpd rfl
    simp only at em
    obtain ⟨X', hrun, hM', hgr, hsz⟩ := (MAt.madeAt hm 3).put (T := 71) (e := 64) keyedI (by kernel_rfl) (by decide) (Wa.keyI (key_of ht)) B
    refine ⟨rfl, X', ?_, Nat.le_of_eq hsz.symm, hB.trans ((Wa.Fm.of_grown hgr).below hB.size (fun k hk' e => by have := (hown m (by rw [om]; simp)).1; omega)), fun j hj hne => hgr.block j hj (fun e => hne (by rw [Option.some.inj e]; exact om)), fun li' hl1 hl2 hl3 => ?_⟩
    · generalize a'.eval = ev at em gk eB |-
      clear hG hk hdn hM' hgr hsz
      go_simp
    · refine ⟨m, em, om, ?_⟩
      rw [if_pos hl2]
      exact ⟨hl1 _ hpd, B, eB, by simpa using hM'⟩
   | 14, ho =>
    exact absurd ht' (by simp [ntgt])
   | 15, ho =>
    exact absurd ht' (by simp [ntgt])
   | 16, ho =>
    exact absurd ht' (by simp [ntgt])
   | 17, ho =>
    exact absurd ht' (by simp [ntgt])
   | 18, ho =>
    exact absurd ht' (by simp [ntgt])
   | 19, ho =>
    exact absurd ht' (by simp [ntgt])
   | 20, ho =>
    exact absurd ht' (by simp [ntgt])
   | 21, ho =>
    cases ho
    obtain rfl : 25 = m := Option.some.inj ht'
    have gk : a'.eval (.tmp 27) = .int .i64 c := hG 18 27 (hdn ⟨18, .data⟩ (by simp) rfl) rfl
    obtain ⟨m, em, om, hm⟩ : NFil 25 21 20 29 c own (fun k => a'.eval (.tmp k)) li X := hG 16 25 (hdn ⟨16, .data⟩ (by simp) rfl) rfl
    rw [if_neg (by rw [hli]; decide)] at hm
    have hpd : li.getD 20 false = true := hdn ⟨20, .data⟩ (by simp) rfl
    obtain ⟨B, eB, oB, hBB⟩ : NBox 29 dvZ 76 (a'.eval (.tmp 29)) X own := hG 20 29 hpd rfl
    simp only at em
    obtain ⟨X', hrun, hM', hgr, hsz⟩ := (MAt.madeAt hm 3).put (T := 77) (e := 73) keyedI (by kernel_rfl) (by decide) (Wa.keyI (key_of hc)) B
    refine ⟨rfl, X', ?_, Nat.le_of_eq hsz.symm, hB.trans ((Wa.Fm.of_grown hgr).below hB.size (fun k hk' e => by have := (hown m (by rw [om]; simp)).1; omega)), fun j hj hne => hgr.block j hj (fun e => hne (by rw [Option.some.inj e]; exact om)), fun li' hl1 hl2 hl3 => ?_⟩
    · generalize a'.eval = ev at em gk eB |-
      clear hG hk hdn hM' hgr hsz
      go_simp
    · refine ⟨m, em, om, ?_⟩
      rw [if_pos hl2]
      exact ⟨hl1 _ hpd, B, eB, by simpa using hM'⟩
   | 22, ho =>
    exact absurd ht' (by simp [ntgt])
   | 23, ho =>
    exact absurd ht' (by simp [ntgt])
   | 24, ho =>
    exact absurd ht' (by simp [ntgt])
   | 25, ho =>
    exact absurd ht' (by simp [ntgt])
   | 26, ho =>
    exact absurd ht' (by simp [ntgt])
   | 27, ho =>
    cases ho
    obtain rfl : 31 = m := Option.some.inj ht'
    have gk : a'.eval (.tmp 33) = .int .i64 r := hG 25 33 (hdn ⟨25, .data⟩ (by simp) rfl) rfl
    obtain ⟨m, S, em, om, hS, hSk⟩ : NSet r c t own (fun k => a'.eval (.tmp k)) li X := hG 23 31 (hdn ⟨23, .data⟩ (by simp) rfl) rfl
    have gv : a'.eval (.tmp 34) = .agg #[] := hG 26 34 (hdn ⟨26, .data⟩ (by simp) rfl) rfl
    simp only at em
    have hSx : S r = false := by rw [hSk, hli]; simp [h1, h2]
    obtain ⟨X', hrun, hS', hgr, hsz⟩ := hS.put (by have := bN_le (li.getD 27 false); have := bN_le (li.getD 31 false); have := bN_le (li.getD 35 false); omega) r (key_of hr)
    rw [hSx] at hS'
    refine ⟨rfl, X', ?_, Nat.le_of_eq hsz.symm, hB.trans ((Wa.Fm.of_grown hgr).below hB.size (fun k hk' e => by have := (hown m (by rw [om]; simp)).1; omega)), fun j hj hne => hgr.block j hj (fun e => hne (by rw [Option.some.inj e]; exact om)), fun li' hl1 hl2 hl3 => ?_⟩
    · generalize a'.eval = ev at em gk gv |-
      clear hG hk hdn hS' hgr hsz hSk
      go_simp
    · refine ⟨m, fun k => k == r || S k, em, om, ?_, fun k => ?_⟩
      · rw [hl2, hl3 31 (by decide), hl3 35 (by decide)]
        rw [hli] at hS'
        have e : ∀ p q : Nat, bN true + p + q = p + q + 1 := fun p q => by show 1 + p + q = _; omega
        have e2 : ∀ p q : Nat, p + bN true + q = p + q + 1 := fun p q => by show p + 1 + q = _; omega
        have e3 : ∀ p q : Nat, p + q + bN true = p + q + 1 := fun p q => by show p + q + 1 = _; omega
        have z : bN false = 0 := rfl
        simp only [e, z, Nat.zero_add] at hS' |-
        exact hS'
      · show (k == r || S k) = _
        rw [hSk, hl2, hl3 31 (by decide), hl3 35 (by decide), hli]
        cases k == r <;> cases k == c <;> cases k == t <;> simp
   | 28, ho =>
    exact absurd ht' (by simp [ntgt])
   | 29, ho =>
    exact absurd ht' (by simp [ntgt])
   | 30, ho =>
    exact absurd ht' (by simp [ntgt])
   | 31, ho =>
    cases ho
    obtain rfl : 31 = m := Option.some.inj ht'
    have gk : a'.eval (.tmp 36) = .int .i64 c := hG 29 36 (hdn ⟨29, .data⟩ (by simp) rfl) rfl
    obtain ⟨m, S, em, om, hS, hSk⟩ : NSet r c t own (fun k => a'.eval (.tmp k)) li X := hG 23 31 (hdn ⟨23, .data⟩ (by simp) rfl) rfl
    have gv : a'.eval (.tmp 37) = .agg #[] := hG 30 37 (hdn ⟨30, .data⟩ (by simp) rfl) rfl
    simp only at em
    have hSx : S c = false := by rw [hSk, hli]; simp [Ne.symm h1, h3]
    obtain ⟨X', hrun, hS', hgr, hsz⟩ := hS.put (by have := bN_le (li.getD 27 false); have := bN_le (li.getD 31 false); have := bN_le (li.getD 35 false); omega) c (key_of hc)
    rw [hSx] at hS'
    refine ⟨rfl, X', ?_, Nat.le_of_eq hsz.symm, hB.trans ((Wa.Fm.of_grown hgr).below hB.size (fun k hk' e => by have := (hown m (by rw [om]; simp)).1; omega)), fun j hj hne => hgr.block j hj (fun e => hne (by rw [Option.some.inj e]; exact om)), fun li' hl1 hl2 hl3 => ?_⟩
    · generalize a'.eval = ev at em gk gv |-
      clear hG hk hdn hS' hgr hsz hSk
      go_simp
    · refine ⟨m, fun k => k == c || S k, em, om, ?_, fun k => ?_⟩
      · rw [hl2, hl3 27 (by decide), hl3 35 (by decide)]
        rw [hli] at hS'
        have e : ∀ p q : Nat, bN true + p + q = p + q + 1 := fun p q => by show 1 + p + q = _; omega
        have e2 : ∀ p q : Nat, p + bN true + q = p + q + 1 := fun p q => by show p + 1 + q = _; omega
        have e3 : ∀ p q : Nat, p + q + bN true = p + q + 1 := fun p q => by show p + q + 1 = _; omega
        have z : bN false = 0 := rfl
        simp only [e2, z, Nat.add_zero] at hS' |-
        exact hS'
      · show (k == c || S k) = _
        rw [hSk, hl2, hl3 27 (by decide), hl3 35 (by decide), hli]
        cases k == r <;> cases k == c <;> cases k == t <;> simp
   | 32, ho =>
    exact absurd ht' (by simp [ntgt])
   | 33, ho =>
    exact absurd ht' (by simp [ntgt])
   | 34, ho =>
    exact absurd ht' (by simp [ntgt])
   | 35, ho =>
    cases ho
    obtain rfl : 31 = m := Option.some.inj ht'
    have gk : a'.eval (.tmp 39) = .int .i64 t := hG 33 39 (hdn ⟨33, .data⟩ (by simp) rfl) rfl
    obtain ⟨m, S, em, om, hS, hSk⟩ : NSet r c t own (fun k => a'.eval (.tmp k)) li X := hG 23 31 (hdn ⟨23, .data⟩ (by simp) rfl) rfl
    have gv : a'.eval (.tmp 40) = .agg #[] := hG 34 40 (hdn ⟨34, .data⟩ (by simp) rfl) rfl
    simp only at em
    have hSx : S t = false := by rw [hSk, hli]; simp [Ne.symm h2, Ne.symm h3]
    obtain ⟨X', hrun, hS', hgr, hsz⟩ := hS.put (by have := bN_le (li.getD 27 false); have := bN_le (li.getD 31 false); have := bN_le (li.getD 35 false); omega) t (key_of ht)
    rw [hSx] at hS'
    refine ⟨rfl, X', ?_, Nat.le_of_eq hsz.symm, hB.trans ((Wa.Fm.of_grown hgr).below hB.size (fun k hk' e => by have := (hown m (by rw [om]; simp)).1; omega)), fun j hj hne => hgr.block j hj (fun e => hne (by rw [Option.some.inj e]; exact om)), fun li' hl1 hl2 hl3 => ?_⟩
    · generalize a'.eval = ev at em gk gv |-
      clear hG hk hdn hS' hgr hsz hSk
      go_simp
    · refine ⟨m, fun k => k == t || S k, em, om, ?_, fun k => ?_⟩
      · rw [hl2, hl3 27 (by decide), hl3 31 (by decide)]
        rw [hli] at hS'
        have e : ∀ p q : Nat, bN true + p + q = p + q + 1 := fun p q => by show 1 + p + q = _; omega
        have e2 : ∀ p q : Nat, p + bN true + q = p + q + 1 := fun p q => by show p + 1 + q = _; omega
        have e3 : ∀ p q : Nat, p + q + bN true = p + q + 1 := fun p q => by show p + q + 1 = _; omega
        have z : bN false = 0 := rfl
        simp only [e3, z, Nat.add_zero] at hS' |-
        exact hS'
      · show (k == t || S k) = _
        rw [hSk, hl2, hl3 27 (by decide), hl3 31 (by decide), hli]
        cases k == r <;> cases k == c <;> cases k == t <;> simp
   | 36, ho =>
    exact absurd ht' (by simp [ntgt])
   | 37, ho =>
    exact absurd ht' (by simp [ntgt])
   | 38, ho =>
    exact absurd ht' (by simp [ntgt])
   | 39, ho =>
    exact absurd ht' (by simp [ntgt])
   | j + 40, ho => simp at ho
 · intro a' X own li hB hs hdf hk hown hall hG
   obtain ⟨tm, df⟩ := a'
   obtain rfl : df = [] := hdf
   have htm := arr3 [.agg #[.int .i64 r, .int .i64 c, .int .i64 t], .pointer (some ⟨b0, 0, none⟩), .pointer none, .int .i64 0, .pointer (some ⟨l0, 0, none⟩), tm.getD 5 undef, .agg #[.int .i64 r, .int .i64 c, .int .i64 t], .bool true, .bool false, .agg #[.int .i64 2, .slice none 0 0], tm.getD 10 undef, tm.getD 11 undef, tm.getD 12 undef, tm.getD 13 undef, tm.getD 14 undef, tm.getD 15 undef, tm.getD 16 undef, tm.getD 17 undef, tm.getD 18 undef, tm.getD 19 undef, tm.getD 20 undef, tm.getD 21 undef, tm.getD 22 undef, tm.getD 23 undef, tm.getD 24 undef, tm.getD 25 undef, tm.getD 26 undef, tm.getD 27 undef, tm.getD 28 undef, tm.getD 29 undef, tm.getD 30 undef, tm.getD 31 undef, tm.getD 32 undef, tm.getD 33 undef, tm.getD 34 undef, tm.getD 35 undef, tm.getD 36 undef, tm.getD 37 undef, tm.getD 38 undef, tm.getD 39 undef, tm.getD 40 undef, tm.getD 41 undef, tm.getD 42 undef, tm.getD 43 undef, undef, undef, undef, undef, undef, undef, undef, undef, undef, undef, undef, undef, undef, undef, undef, undef, undef, undef, undef, undef, undef] hs (ae 1 (by exact hk 0 rfl) (ae 2 (by exact hk 1 rfl) (ae 3 (by exact hk 2 rfl) (ae 4 (by exact hk 3 rfl) (ae 5 (by exact hk 4 rfl) (ae 6 rfl (ae 7 (by exact hk 6 rfl) (ae 8 (by exact hk 7 rfl) (ae 9 (by exact hk 8 rfl) (ae 10 (by exact hk 9 rfl) (ae 11 rfl (ae 12 rfl (ae 13 rfl (ae 14 rfl (ae 15 rfl (ae 16 rfl (ae 17 rfl (ae 18 rfl (ae 19 rfl (ae 20 rfl (ae 21 rfl (ae 22 rfl (ae 23 rfl (ae 24 rfl (ae 25 rfl (ae 26 rfl (ae 27 rfl (ae 28 rfl (ae 29 rfl (ae 30 rfl (ae 31 rfl (ae 32 rfl (ae 33 rfl (ae 34 rfl (ae 35 rfl (ae 36 rfl (ae 37 rfl (ae 38 rfl (ae 39 rfl (ae 40 rfl (ae 41 rfl (ae 42 rfl (ae 43 rfl (ae 44 rfl (ae 45 (by exact hk 44 rfl) (ae 46 (by exact hk 45 rfl) (ae 47 (by exact hk 46 rfl) (ae 48 (by exact hk 47 rfl) (ae 49 (by exact hk 48 rfl) (ae 50 (by exact hk 49 rfl) (ae 51 (by exact hk 50 rfl) (ae 52 (by exact hk 51 rfl) (ae 53 (by exact hk 52 rfl) (ae 54 (by exact hk 53 rfl) (ae 55 (by exact hk 54 rfl) (ae 56 (by exact hk 55 rfl) (ae 57 (by exact hk 56 rfl) (ae 58 (by exact hk 57 rfl) (ae 59 (by exact hk 58 rfl) (ae 60 (by exact hk 59 rfl) (ae 61 (by exact hk 60 rfl) (ae 62 (by exact hk 61 rfl) (ae 63 (by exact hk 62 rfl) (ae 64 (by exact hk 63 rfl) (ae 65 (by exact hk 64 rfl) az)))))))))))))))))))))))))))))))))))))))))))))))))))))))))))))))))
   obtain ⟨-, e5⟩ : li.getD 38 false = true /\ tm.getD 5 undef = tm.getD 43 undef := hG 39 5 (by decide) rfl
   obtain ⟨-, cs, e42, kb, e43, o43, hkb⟩ : li.getD 37 false = true /\ ∃ cs, tm.getD 42 undef = .agg cs /\ NBox 43 cs 81 (tm.getD 43 undef) X own := hG 38 43 (by decide) rfl
   obtain ⟨-, -, e42'⟩ : (li.getD 3 false = true /\ li.getD 4 false = true /\ li.getD 5 false = true /\ li.getD 6 false = true) /\ (li.getD 14 false = true /\ li.getD 15 false = true /\ li.getD 22 false = true /\ li.getD 36 false = true) /\ tm.getD 42 undef = .agg (knV (tm.getD 13 undef) (tm.getD 14 undef) (tm.getD 15 undef) (tm.getD 16 undef) (tm.getD 23 undef) (tm.getD 24 undef) (tm.getD 30 undef) (tm.getD 41 undef)) := hG 37 42 (by decide) rfl
   obtain ⟨base, tb, mb, D, rr, e13, hbase, hT, hrr, hszD, ho13⟩ : NTab W2.heap.size r (tm.getD 13 undef) X own := hG 3 13 (by decide) rfl
   obtain ⟨rb, F, e14, hR, hFl, ho14⟩ : NRms (tm.getD 14 undef) X own := hG 4 14 (by decide) rfl
   obtain ⟨m15, e15, o15, h15⟩ : NEmp 15 (tm.getD 15 undef) X own := hG 5 15 (by decide) rfl
   obtain ⟨m16, e16, o16, h16⟩ : NEmp 16 (tm.getD 16 undef) X own := hG 6 16 (by decide) rfl
   obtain ⟨m24, e24, o24, h24⟩ : NEmp 24 (tm.getD 24 undef) X own := hG 15 24 (by decide) rfl
   obtain ⟨m17, e17, o17, h17⟩ : NFil 17 13 12 22 t own (fun k => tm.getD k undef) li X := hG 7 17 (by decide) rfl
   rw [if_pos (hall 13 (by decide))] at h17
   obtain ⟨-, th, e22, hM17⟩ := h17
   obtain ⟨th', e22', o22, h22⟩ : NBox 22 thZ 70 (tm.getD 22 undef) X own := hG 12 22 (by decide) rfl
   obtain ⟨m25, e25, o25, h25⟩ : NFil 25 21 20 29 c own (fun k => tm.getD k undef) li X := hG 16 25 (by decide) rfl
   rw [if_pos (hall 21 (by decide))] at h25
   obtain ⟨-, dv, e29, hM25⟩ := h25
   obtain ⟨dv', e29', o29, h29⟩ : NBox 29 dvZ 76 (tm.getD 29 undef) X own := hG 20 29 (by decide) rfl
   simp only at e17 e22 e25 e29
   obtain rfl : th = th' := by rw [e22] at e22'; cases e22'; rfl
   obtain rfl : dv = dv' := by rw [e29] at e29'; cases e29'; rfl
   obtain ⟨m31, S, e31, o31, hS, hSk⟩ : NSet r c t own (fun k => tm.getD k undef) li X := hG 23 31 (by decide) rfl
   rw [hall 27 (by decide), hall 31 (by decide), hall 35 (by decide)] at hS
   simp only [hall 27 (by decide), hall 31 (by decide), hall 35 (by decide), Bool.true_and] at hSk
   obtain ⟨-, -, e23⟩ : li.getD 7 false = true /\ li.getD 13 false = true /\ tm.getD 23 undef = tm.getD 17 undef := hG 14 23 (by decide) rfl
   obtain ⟨-, -, e30⟩ : li.getD 16 false = true /\ li.getD 21 false = true /\ tm.getD 30 undef = tm.getD 25 undef := hG 22 30 (by decide) rfl
   obtain ⟨-, e41⟩ : li.getD 23 false = true /\ tm.getD 41 undef = tm.getD 31 undef := hG 36 41 (by decide) rfl
   simp only at e31
   have hcs : cs = knV (Wa.pv tb) (Wa.pv rb) (.map (some m15)) (.map (some m16)) (.map (some m17)) (.map (some m24)) (.map (some m25)) (.map (some m31)) := by
    rw [e42, e13, e14, e15, e16, e23, e17, e24, e30, e25, e41, e31] at e42'
    injection e42'
   rw [hcs] at hkb
   have e5' : tm.getD 5 undef = .pointer (some ⟨kb, 0, none⟩) := e5.trans e43
   rw [e5'] at htm
   clear hG hall hk hs e42 e42' e43 e13 e14 e15 e16 e17 e22 e22' e23 e24 e25 e29 e29' e30 e31 e41 e5 e5' hcs
   generalize tm.getD 10 undef = t10 at htm
   generalize tm.getD 11 undef = t11 at htm
   generalize tm.getD 12 undef = t12 at htm
   generalize tm.getD 13 undef = t13 at htm
   generalize tm.getD 14 undef = t14 at htm
   generalize tm.getD 15 undef = t15 at htm
   generalize tm.getD 16 undef = t16 at htm
   generalize tm.getD 17 undef = t17 at htm
   generalize tm.getD 18 undef = t18 at htm
   generalize tm.getD 19 undef = t19 at htm
   generalize tm.getD 20 undef = t20 at htm
   generalize tm.getD 21 undef = t21 at htm
   generalize tm.getD 22 undef = t22 at htm
   generalize tm.getD 23 undef = t23 at htm
   generalize tm.getD 24 undef = t24 at htm
   generalize tm.getD 25 undef = t25 at htm
   generalize tm.getD 26 undef = t26 at htm
   generalize tm.getD 27 undef = t27 at htm
   generalize tm.getD 28 undef = t28 at htm
   generalize tm.getD 29 undef = t29 at htm
   generalize tm.getD 30 undef = t30 at htm
   generalize tm.getD 31 undef = t31 at htm
   generalize tm.getD 32 undef = t32 at htm
   generalize tm.getD 33 undef = t33 at htm
   generalize tm.getD 34 undef = t34 at htm
   generalize tm.getD 35 undef = t35 at htm
   generalize tm.getD 36 undef = t36 at htm
   generalize tm.getD 37 undef = t37 at htm
   generalize tm.getD 38 undef = t38 at htm
   generalize tm.getD 39 undef = t39 at htm
   generalize tm.getD 40 undef = t40 at htm
   generalize tm.getD 41 undef = t41 at htm
   generalize tm.getD 42 undef = t42 at htm
   generalize tm.getD 43 undef = t43 at htm
   subst htm
   obtain ⟨⟨q0, q1, q2⟩, q3, q4⟩ := HS.out X hB
   have hbX : b0 < X.heap.size := Nat.lt_of_lt_of_le hzb hB.size
   have hlX : l0 < X.heap.size := Nat.lt_of_lt_of_le hzl hB.size
   have hkX : kb < X.heap.size := (hown kb (by rw [o43]; simp)).2
   have nT : ∀ k j, own k = some j -> j ≠ 13 -> ¬ Ho.tfoot tb mb (Ho.T0 r rr) k := fun k j hk hj hf => by rw [ho13 k hf] at hk; cases hk; exact hj rfl
   have ck : X.cell? ⟨kb, 0, none⟩ = some (.pointer (some ⟨tb, 0, none⟩)) := by simp [World.cell?, hkb, knV]
   have HM1 := Lib.hid (fun nz => Ho.Make_ok (w := X.drewN nz) (hT.same (fun _ _ => rfl)) r c 6 1 2 none 0 [] rr (by simp) (fun j h => by simp at h) (show Ho.i64 r from key_of hr) (by unfold Ho.T0; rw [if_pos rfl]) (by rw [hrr]; rfl) (by omega) (by omega) (by decide) hc (by unfold Ho.T0; rw [if_neg (Ne.symm h1)]) (by omega) (by rw [hrr]; simp [Ho.root0]) (by rw [hrr]; simp [Ho.root0]) (by rw [hrr]; simp [Ho.root0]) (by rw [hrr]; simp [Ho.root0]))
   have HBX := Lib.hid hB
   have HRms := Lib.hid hR
   have HSet := Lib.hid hS
   have HM17 := Lib.hid hM17
   have HM25 := Lib.hid hM25
   have H29 := Lib.hid h29
   have HTX := Lib.hid hT
   have Hkb := Lib.hid hkb
   have HoT := Lib.hid ho13
   have H22 := Lib.hid h22
   have HmS := Lib.hid (MAt.madeAt h15 3)
   clear hB hR hS hM17 hM25 h15 h16 h24 h29 hkb hT ho13 h22
   go_upto_region 5 with fail
   refine Ko.wp_region_tail_d 9 (by kernel_rfl) (by kernel_rfl) ?_
   simp only [List.take_succ_cons, List.take_zero, List.drop_succ_cons, List.drop_zero]
   repeat (go_big_quiet_step (fail))
   refine wpQuiet_nil ?_
   intro _ hw'
   obtain ⟨nz, hw''⟩ := hw'
   subst hw''
   go_wp2_with (go_at_call 16; refine (HM1.out _).mono ?_; rintro e W3 ⟨rfl, D3, r3, s3, hT3, hr3, hs3, hz3, hF3⟩; refine Hid.out ?_)
   refine Lib.hid ?_
   have hsz3 : X.heap.size <= W3.heap.size := hF3.size
   have kp3 : ∀ k, k < X.heap.size -> ¬ Ho.tfoot tb mb (Ho.T0 r rr) k -> W3.heap[k]? = X.heap[k]? := fun k h1 h2 => hF3.same k h1 h2
   have od3 : ∀ k, k < W2.heap.size -> W3.heap[k]? = X.heap[k]? := fun k hk => kp3 k (Nat.lt_of_lt_of_le hk HBX.out.size) (fun hf => by have := (HTX.out.lt hf).1; omega)
   have Kp3 := Lib.hid kp3
   have Od3 := Lib.hid od3
   have p0 : W3.cell? ⟨b0, 0, none⟩ = some (.int .i64 r) := (World.cell?_of_block (a := ⟨b0, 0, none⟩) (od3 b0 hzb)).trans q0
   have p2 : W3.cell? ⟨b0, 2, none⟩ = some (.int .i64 t) := (World.cell?_of_block (a := ⟨b0, 2, none⟩) (od3 b0 hzb)).trans q2
   have p3 : W3.cell? ⟨l0, 0, none⟩ = some (.int .i64 2) := (World.cell?_of_block (a := ⟨l0, 0, none⟩) (od3 l0 hzl)).trans q3
   have p4 : W3.cell? ⟨l0, 1, none⟩ = some (.slice none 0 0) := (World.cell?_of_block (a := ⟨l0, 1, none⟩) (od3 l0 hzl)).trans q4
   have ck3 : W3.cell? ⟨kb, 0, none⟩ = some (.pointer (some ⟨tb, 0, none⟩)) := (World.cell?_of_block (a := ⟨kb, 0, none⟩) (kp3 kb hkX (nT kb 43 o43 (by decide)))).trans ck
   rw [hrr] at hr3
   obtain ⟨T3, hT3e⟩ : ∃ T3, Ho.upd (Ho.upd (Ho.T0 r rr) r r3) c s3 = T3 := ⟨_, rfl⟩
   rw [hT3e] at hT3 hF3
   have t3r : T3 r = some r3 := by rw [<- hT3e]; unfold Ho.upd; rw [if_neg h1, if_pos rfl]
   have t3c : T3 c = some s3 := by rw [<- hT3e]; unfold Ho.upd; rw [if_pos rfl]
   have t3n : ∀ k, k ≠ r -> k ≠ c -> T3 k = none := fun k a b => by rw [<- hT3e]; unfold Ho.upd; rw [if_neg b, if_neg a]; unfold Ho.T0; rw [if_neg a]
   have HM2 := Lib.hid (fun nz => Ho.Make_ok (w := W3.drewN nz) (hT3.same (fun _ _ => rfl)) r t 4 1 2 none 0 [] r3 (by simp) (fun j h => by simp at h) (show Ho.i64 r from key_of hr) t3r (by rw [hr3]; rfl) (by omega) (by omega) (by decide) ht (t3n t (Ne.symm h2) (Ne.symm h3)) (by omega) (by rw [hr3]; simp [Ho.root0]) (by rw [hr3]; simp [Ho.root0]) (by rw [hr3]; simp [Ho.root0]) (by rw [hr3]; simp [Ho.root0]))
   have HF3 := Lib.hid hF3
   clear HM1 hT3e q0 q1 q2 q3 q4 ck kp3 od3 hF3
   go_upto_region 6 with fail
   refine Ko.wp_region_tail_d 9 (by kernel_rfl) (by kernel_rfl) ?_
   simp only [List.take_succ_cons, List.take_zero, List.drop_succ_cons, List.drop_zero]
   repeat (go_big_quiet_step (fail))
   refine wpQuiet_nil ?_
   intro _ hw'
   obtain ⟨ny, hw''⟩ := hw'
   subst hw''
   go_wp2_with (go_at_call 16; refine (HM2.out _).mono ?_; rintro e W4 ⟨rfl, D4, r4, s4, hT4, hr4, hs4, hz4, hF4⟩; refine Hid.out ?_)
   refine Lib.hid ?_
   rw [hr3] at hr4
   obtain ⟨T4, hT4e⟩ : ∃ T4, Ho.upd (Ho.upd T3 r r4) t s4 = T4 := ⟨_, rfl⟩
   rw [hT4e] at hT4 hF4
   have t4r : T4 r = some r4 := by rw [<- hT4e]; unfold Ho.upd; rw [if_neg h2, if_pos rfl]
   have t4t : T4 t = some s4 := by rw [<- hT4e]; unfold Ho.upd; rw [if_pos rfl]
   have t4c : T4 c = some s3 := by rw [<- hT4e]; unfold Ho.upd; rw [if_neg h3, if_neg (Ne.symm h1)]; exact t3c
   have t4n : ∀ k, k ≠ r -> k ≠ c -> k ≠ t -> T4 k = none := fun k a b d => by rw [<- hT4e]; unfold Ho.upd; rw [if_neg d, if_neg a]; exact t3n k a b
   have hsz4 : W3.heap.size <= W4.heap.size := hF4.size
   have new4 : ∀ k, Ho.tfoot tb mb T4 k -> Ho.tfoot tb mb (Ho.T0 r rr) k ∨ X.heap.size <= k := fun k hk => by
    rcases hF4.new k hk with h | h
    · exact HF3.out.new k h
    · exact .inr (Nat.le_trans hsz3 h)
   have nT4 : ∀ k j, own k = some j -> j ≠ 13 -> ¬ Ho.tfoot tb mb T4 k := fun k j hk hj hf => by
    rcases new4 k hf with h | h
    · exact nT k j hk hj h
    · have := (hown k (by rw [hk]; simp)).2; omega
   have kp4 : ∀ k j, own k = some j -> j ≠ 13 -> W4.heap[k]? = X.heap[k]? := fun k j hk hj => by
    have hk1 := (hown k (by rw [hk]; simp)).2
    refine (hF4.same k (Nat.lt_of_lt_of_le hk1 hsz3) (fun hf => ?_)).trans (Kp3.out k hk1 (nT k j hk hj))
    rcases HF3.out.new k hf with h | h
    · exact nT k j hk hj h
    · have h5 : X.heap.size <= k := h; omega
   have hbT : W2.heap.size <= base := hbase
   have hb4 : Below w.heap.size w W4 := by
    have h3' : Below W2.heap.size X W3 := ⟨HF3.out.os, HF3.out.tape, HF3.out.output, HF3.out.size, fun k hk => Od3.out k hk⟩
    have h4' : Below W2.heap.size W3 W4 := ⟨hF4.os, hF4.tape, hF4.output, hF4.size, fun k hk => hF4.same k (Nat.lt_of_lt_of_le hk (Nat.le_trans HBX.out.size hsz3)) (fun hf => by
     rcases HF3.out.new k hf with h | h
     · have := (HTX.out.lt h).1; omega
     · have := HBX.out.size; have h5 : X.heap.size <= k := h; omega)⟩
    have hbx : Below W2.heap.size W2 W4 := (HBX.out.trans h3').trans h4'
    have hb2 := HB2.out
    rw [Hb0.out]
    exact hb2.trans (hbx.mono (Nat.le_of_lt hzb))
   have hb0X : b0 <= base := Nat.le_of_lt (Nat.lt_of_lt_of_le hzb hbT)
   have oT : ∀ k j, own k = some j -> j ≠ 13 -> ownT (Ho.tfoot tb mb T4) t c own k = tagOf t c (some j) := fun k j hk hj => by rw [ownT_no (nT4 k j hk hj), hk]
   have HE : Hid (∃ K : Kn, K.kb = kb /\ KAt w.heap.size W4 K /\ KFirst K r c t /\ KDev W4 K c) := by
    refine ⟨⟨kb, tb, mb, base, rb, m15, m16, m17, m24, m25, m31, D4, T4, F, [], fun _ => [], 0, 0, fun _ => none, fun _ => [], 1, Wa.updF (fun _ => none) (Wa.ky t) (some th), fun _ => ⟨4, .slice none 0 0, [], 0, 0, List.replicate 17 0, false⟩, 3, S, 0, ownT (Ho.tfoot tb mb T4) t c own⟩, rfl, ?_, ?_, ⟨dv, HM25.out.same (kp4 _ 25 o25 (by decide)), (kp4 dv 29 o29 (by decide)).trans H29.out, oT dv 29 o29 (by decide)⟩⟩
    · refine ⟨(kp4 kb 43 o43 (by decide)).trans Hkb.out, hT4, HRms.out.same (Nat.le_trans hsz3 hsz4) (fun k _ hk => kp4 k 14 (ho14 k hk) (by decide)), HmS.out.same (kp4 _ 15 o15 (by decide)), HM17.out.same (kp4 _ 17 o17 (by decide)), HSet.out.same (kp4 _ 31 o31 (by decide)), ?_, ?_, ?_, ?_, ?_, ?_, ?_, ?_, ?_, ?_, ?_, ?_⟩
      · intro id B hB
        have hid : Wa.ky id = Wa.ky t /\ B = th := by
         simp only [Wa.updF] at hB
         split at hB
         · rename_i he; exact ⟨he, (Option.some.inj hB).symm⟩
         · cases hB
        obtain ⟨he, rfl⟩ := hid
        have hid2 : id = t := by injection he
        subst hid2
        refine ⟨(kp4 B 22 o22 (by decide)).trans H22.out, oT B 22 o22 (by decide), rfl, ⟨none, 0, rfl, fun j h => by simp at h, Nat.le_refl _, by simp⟩, fun k hk => by cases hk⟩
      · intro id B hB; cases hB
      · exact oT kb 43 o43 (by decide)
      · intro k hk; exact ownT_yes hk
      · intro k hk; exact oT k 14 (ho14 k hk) (by decide)
      · exact oT _ 15 o15 (by decide)
      · exact oT _ 16 o16 (by decide)
      · exact oT _ 17 o17 (by decide)
      · exact oT _ 24 o24 (by decide)
      · exact oT _ 25 o25 (by decide)
      · exact oT _ 31 o31 (by decide)
      · intro k hk
        by_cases hf : Ho.tfoot tb mb T4 k
        · have := hT4.lt hf; rw [Hb0.out]; exact ⟨by omega, this.2⟩
        · change ownT (Ho.tfoot tb mb T4) t c own k ≠ none at hk
          rw [ownT_no hf] at hk
          have h5 : own k ≠ none := fun e => by rw [e] at hk; exact hk rfl
          have := hown k h5
          have := HBX.out.size
          rw [Hb0.out]; exact ⟨by omega, by omega⟩
    · refine ⟨⟨r4, t4r, ?_⟩, ⟨s3, t4c, hs3⟩, ⟨s4, t4t, hs4⟩, t4n, by show Maps.size D4 = 3; omega, rfl, rfl, rfl, rfl, ⟨th, rfl⟩, rfl, rfl, hSk, rfl, rfl⟩
      rw [hr4]; simp [Ho.root0]
   have HB4 := Lib.hid hb4
   clear hT4 hF4 kp4 nT4 nT oT new4 hT3 hSk HmS HM17 HM25 H29 HSet HRms HBX HTX Hkb HoT H22 HF3 Kp3 Od3 hown ho14 o15 o16 o17 o24 o25 o31 o22 o29 o43 hr4 hs4 hs3 hr3 hrr HS HNw HRm HM2 hb4
   go_wp2
   obtain ⟨K, hK1, hK2, hK3, hK4⟩ := HE.out
   exact bodyPost_ret (v := .tuple #[.pointer (some ⟨kb, 0, none⟩), .int .i64 0]) (by simp [results, Tryz.results5, go_sem]) rfl ⟨K, by rw [hK1], hK2, hK3, HB4.out, hK4⟩

end Go.Proofs.YtmgfakfiiaeofaaGreat
