/- What New of layer 9's reference makes. -/
import Derived.Test.YtmgfakfiiaeofaaGreatSq
import Derived.Test.YtmgfakfiiaeofaaGreatKBoot
import Derived.Test.YtmgfakfiiaeofaaGreatHoRefXo
import Derived.Test.YtmgfakfiiaeofaaGreatKTh
import Derived.Test.YtmgfakfiiaeofaaGreatKoPhase6
import Derived.Test.YtmgfakfiiaeofaaGreatKNewP
namespace Go.Proofs.YtmgfakfiiaeofaaGreat
open Go.RowKit Go.Sort
theorem RKS.mono {W : World} {lo lo' kb rb rm dr : Nat} {al : Value} {r c t : Int} {S : Ho.Abs} (h : RKS W lo kb rb rm dr al r c t S) (hl : lo' <= lo) : RKS W lo' kb rb rm dr al r c t S := by
 obtain ⟨h1, h2, h3, ⟨g, cap, cs, L, h4, h5, h6, h7⟩, h8⟩ := h
 exact ⟨h1, h2, h3, ⟨g, cap, cs, L, h4, h5, Nat.le_trans hl h6, Nat.le_trans hl h7⟩, Nat.le_trans hl h8⟩
def PTab (lo : Nat) (r : Int) (v : Value) (X : World) : Prop := ∃ rb g, v = .pointer (some ⟨rb, 0, none⟩) /\ lo <= rb /\ lo <= g /\ rb ≠ g /\ X.heap[rb]? = some (.cells #[.int .i64 r, .slice (some ⟨g, 0, none⟩) 1 1] 133 (0, 0)) /\ X.heap[g]? = some (.cells (Ho.thC ⟨r, 1, 1099511627776, 2, none, 0, [], none, 0, []⟩).toArray 130 (0, 0))
def PBlk (lo : Nat) (cs : Array Value) (ty : TypeId) (v : Value) (X : World) : Prop := ∃ b, v = .pointer (some ⟨b, 0, none⟩) /\ lo <= b /\ X.heap[b]? = some (.cells cs ty (0, 0))
def PRow (lo : Nat) (cs : Array Value) (ty : TypeId) (n : Nat) (v : Value) (X : World) : Prop := ∃ b, v = .slice (some ⟨b, 0, none⟩) n n /\ lo <= b /\ X.heap[b]? = some (.cells cs ty (0, 0))
theorem PTab.below {lo : Nat} {r : Int} {v : Value} {X Y : World} (h : PTab lo r v X) (hb : Below X.heap.size X Y) : PTab lo r v Y := by
 obtain ⟨rb, g, h1, h2, h3, h4, h5, h6⟩ := h
 exact ⟨rb, g, h1, h2, h3, h4, (hb.block rb (Array.getElem?_eq_some_iff.1 h5).1).trans h5, (hb.block g (Array.getElem?_eq_some_iff.1 h6).1).trans h6⟩
theorem PBlk.below {lo : Nat} {cs : Array Value} {ty : TypeId} {v : Value} {X Y : World} (h : PBlk lo cs ty v X) (hb : Below X.heap.size X Y) : PBlk lo cs ty v Y := by
 obtain ⟨b, h1, h2, h3⟩ := h
 exact ⟨b, h1, h2, (hb.block b (Array.getElem?_eq_some_iff.1 h3).1).trans h3⟩
theorem PRow.below {lo : Nat} {cs : Array Value} {ty : TypeId} {n : Nat} {v : Value} {X Y : World} (h : PRow lo cs ty n v X) (hb : Below X.heap.size X Y) : PRow lo cs ty n v Y := by
 obtain ⟨b, h1, h2, h3⟩ := h
 exact ⟨b, h1, h2, (hb.block b (Array.getElem?_eq_some_iff.1 h3).1).trans h3⟩
def PKer (lo : Nat) (r c t : Int) (v : Value) (X : World) : Prop := ∃ v10 v12 v19, v = .agg #[v10, v12, .slice none 0 0, v19, .int .i64 0] /\ PTab lo r v10 X /\ PBlk lo rmZ 87 v12 X /\ PRow lo #[.int .i64 r, .int .i64 c, .int .i64 t] 3 3 v19 X
def PKb (lo : Nat) (r c t : Int) (v : Value) (X : World) : Prop := ∃ kb v10 v12 v19, v = .pointer (some ⟨kb, 0, none⟩) /\ lo <= kb /\ X.heap[kb]? = some (.cells #[v10, v12, .slice none 0 0, v19, .int .i64 0] 39 (0, 0)) /\ PTab lo r v10 X /\ PBlk lo rmZ 87 v12 X /\ PRow lo #[.int .i64 r, .int .i64 c, .int .i64 t] 3 3 v19 X
theorem PKer.below {lo : Nat} {r c t : Int} {v : Value} {X Y : World} (h : PKer lo r c t v X) (hb : Below X.heap.size X Y) : PKer lo r c t v Y := by
 obtain ⟨a, b, d, h1, h2, h3, h4⟩ := h
 exact ⟨a, b, d, h1, h2.below hb, h3.below hb, h4.below hb⟩
theorem PKb.below {lo : Nat} {r c t : Int} {v : Value} {X Y : World} (h : PKb lo r c t v X) (hb : Below X.heap.size X Y) : PKb lo r c t v Y := by
 obtain ⟨kb, a, b, d, h1, h0, h5, h2, h3, h4⟩ := h
 exact ⟨kb, a, b, d, h1, h0, (hb.block kb (Array.getElem?_eq_some_iff.1 h5).1).trans h5, h2.below hb, h3.below hb, h4.below hb⟩
set_option maxRecDepth 100000 in
set_option maxHeartbeats 8000000 in
theorem kNew_any (r c t : Int) (w : World) (hbt : bootB r c t = true) : Calls Tryz.prog 6 #[.agg #[.int .i64 r, .int .i64 c, .int .i64 t]] w fun e w' => ∃ kb rb rm dr al, e = .returned (.pointer (some ⟨kb, 0, none⟩)) /\ RKS w' w.heap.size kb rb rm dr (.slice (some ⟨al, 0, none⟩) 3 3) r c t (Ho.A2 r c t) /\ w'.heap[al]? = some (.cells (all3 r c t).toArray 91 (0, 0)) /\ Below w.heap.size w w' := by
 have HC := Lib.hid (fun X => Booted_any r c t X)
 rw [hbt] at HC
 have hcs : Ho.isCt r = true /\ Ho.isCt c = true /\ Ho.isCt t = true /\ r ≠ c /\ r ≠ t /\ c ≠ t := by unfold bootB at hbt; simpa using hbt
 have HCS := Lib.hid hcs
 obtain ⟨W0, hW0⟩ : ∃ W0, w.alloc (.cells #[.int .i64 r, .int .i64 c, .int .i64 t] 23) = W0 := ⟨_, rfl⟩
 have hb0 : Below w.heap.size w W0 := by rw [<- hW0]; exact (Below.refl _ _).alloc (Nat.le_refl _) _
 have hi0 : W0.heap[w.heap.size]? = some (.cells #[.int .i64 r, .int .i64 c, .int .i64 t] 23 (0, 0)) := by rw [<- hW0]; exact heap_alloc_new _ _
 obtain ⟨b1, hb1⟩ : ∃ b1, w.heap.size = b1 := ⟨_, rfl⟩
 have HB0 := Lib.hid hb0
 go_enter Tryz.func6, Tryz.ntmps6
 go_upto_region 1 with fail
 try rw [hW0]
 rw [hb1] at hi0
 try rw [hb1]
 have q0 : W0.cell? ⟨b1, 0, none⟩ = some (.int .i64 r) := by simp [World.cell?, hi0]
 have q1 : W0.cell? ⟨b1, 1, none⟩ = some (.int .i64 c) := by simp [World.cell?, hi0]
 have q2 : W0.cell? ⟨b1, 2, none⟩ = some (.int .i64 t) := by simp [World.cell?, hi0]
 have Hi0 := Lib.hid hi0
 have Hb1 := Lib.hid hb1
 clear hW0 hb0 hi0 hb1 hbt hcs
 go_wp2_with (go_at_call 17; refine (HC.out _).mono ?_; rintro e W1 ⟨rfl, hB1⟩; refine Hid.out ?_)
 refine Lib.hid ?_
 have HB1 := Lib.hid (HB0.out.trans (hB1.mono HB0.out.size))
 have HQ : Hid (∀ X, Below W1.heap.size W1 X -> X.cell? ⟨b1, 0, none⟩ = some (.int .i64 r) /\ X.cell? ⟨b1, 1, none⟩ = some (.int .i64 c) /\ X.cell? ⟨b1, 2, none⟩ = some (.int .i64 t)) := Lib.hid (fun X hX => by
  have hz := (Array.getElem?_eq_some_iff.1 Hi0.out).1
  have e := (hX.block b1 (Nat.lt_of_lt_of_le hz hB1.size)).trans ((hB1.block b1 hz).trans Hi0.out)
  exact ⟨by simp [World.cell?, e], by simp [World.cell?, e], by simp [World.cell?, e]⟩)
 clear q0 q1 q2 hB1 HB0 Hi0 HC
 go_upto_region 3 with fail
 refine Ko.wp_region_monoT 15 15 (fun kq uq Xq => match kq with | 7 => uq = .pointer (some ⟨b1, 0, none⟩) | 8 => uq = .int .i64 r | 9 => uq = .agg #[.int .i64 2, .slice none 0 0] | 10 => PTab W1.heap.size r (uq) Xq | 11 => uq = .agg rmZ | 12 => PBlk W1.heap.size rmZ 87 (uq) Xq | 13 => uq = .pointer (some ⟨b1, 0, none⟩) | 14 => uq = .int .i64 r | 15 => uq = .pointer (some ⟨b1, 1, none⟩) | 16 => uq = .int .i64 c | 17 => uq = .pointer (some ⟨b1, 2, none⟩) | 18 => uq = .int .i64 t | 19 => PRow W1.heap.size #[.int .i64 r, .int .i64 c, .int .i64 t] 3 3 (uq) Xq | 20 => PKer W1.heap.size r c t (uq) Xq | 21 => PKb W1.heap.size r c t (uq) Xq | _ => True) (by kernel_rfl) (by kernel_rfl) (by kernel_rfl) (by kernel_rfl) (by simp) (by kernel_rfl) ?_ ?_ ?_
 · intro kq v W W' h hb
   revert h
   try dsimp only
   split
   · intro h; exact h
   · intro h; exact h
   · intro h; exact h
   · intro h; exact h.below hb
   · intro h; exact h
   · intro h; exact h.below hb
   · intro h; exact h
   · intro h; exact h
   · intro h; exact h
   · intro h; exact h
   · intro h; exact h
   · intro h; exact h
   · intro h; exact h.below hb
   · intro h; exact h.below hb
   · intro h; exact h.below hb
   · intro h; trivial
 · intro a' X hB hs hk i o d ho hd hG
   match i, ho with
   | 0, ho =>
    cases ho
    obtain rfl : 7 = d := Option.some.inj hd
    have g1 : a'.eval (.tmp 1) = .pointer (some ⟨b1, 0, none⟩) := hk 1 (by kernel_rfl)
    generalize a'.eval = ev at g1 |-
    clear hG hk
    obtain ⟨q0, q1, q2⟩ := HQ.out X hB
    exact .inr ⟨rfl, .inl ⟨.pointer (some ⟨b1, 0, none⟩), X, by clear hs; go_simp, Below.refl _ _, rfl⟩⟩
   | 1, ho =>
    cases ho
    obtain rfl : 8 = d := Option.some.inj hd
    have g7 : a'.eval (.tmp 7) = .pointer (some ⟨b1, 0, none⟩) := hG ⟨0, .data⟩ (by simp) rfl 7 rfl
    generalize a'.eval = ev at g7 |-
    clear hG hk
    obtain ⟨q0, q1, q2⟩ := HQ.out X hB
    exact .inr ⟨rfl, .inl ⟨.int .i64 r, X, by clear hs; go_simp, Below.refl _ _, rfl⟩⟩
   | 2, ho =>
    cases ho
    obtain rfl : 9 = d := Option.some.inj hd
    have k0 : a'.eval (.const (.int .i64 2)) = (.int .i64 2) := rfl
    refine .inr ⟨rfl, .inr ⟨19, #[.int .i64 2], ?_, ?_⟩⟩
    · have gF : a'.eval (.func 19) = .func (.func 19) #[] #[] := rfl
      generalize a'.eval = ev at gF k0 |-
      exact exec_call1 rfl gF k0 (enters_of Tryz.func19 (by kernel_rfl) rfl)
    · exact (one_lab 2 X).mono fun e W' ⟨he, hb⟩ => ⟨_, he, hb, rfl⟩
   | 3, ho =>
    cases ho
    obtain rfl : 10 = d := Option.some.inj hd
    have g8 : a'.eval (.tmp 8) = .int .i64 r := hG ⟨1, .data⟩ (by simp) rfl 8 rfl
    have g9 : a'.eval (.tmp 9) = .agg #[.int .i64 2, .slice none 0 0] := hG ⟨2, .data⟩ (by simp) rfl 9 rfl
    refine .inr ⟨rfl, .inr ⟨18, #[.int .i64 r, .agg #[.int .i64 2, .slice none 0 0]], ?_, ?_⟩⟩
    · have gF : a'.eval (.func 18) = .func (.func 18) #[] #[] := rfl
      generalize a'.eval = ev at gF g8 g9 |-
      exact exec_call2 rfl gF g8 g9 (enters_of Tryz.func18 (by kernel_rfl) rfl)
    · exact (Ho.rNew_yes r 2 none 0 [] X (by decide) (fun j h => by simp at h) HCS.out.1 (by decide)).mono fun e W' ⟨rb, g, he, p1, p2, p3, p4, p5, p6⟩ => ⟨_, he, p6, ⟨rb, g, rfl, Nat.le_trans hB.size p1, Nat.le_trans hB.size p2, p3, p4, p5⟩⟩
   | 4, ho =>
    cases ho
    obtain rfl : 11 = d := Option.some.inj hd
    generalize a'.eval = ev
    clear hG hk
    exact .inr ⟨rfl, .inl ⟨.agg rmZ, X, by unfold rmZ; clear hs; go_simp, Below.refl _ _, rfl⟩⟩
   | 5, ho =>
    cases ho
    obtain rfl : 12 = d := Option.some.inj hd
    have g11 : a'.eval (.tmp 11) = .agg rmZ := hG ⟨4, .data⟩ (by simp) rfl 11 rfl
    generalize a'.eval = ev at g11 |-
    clear hG hk
    unfold rmZ at g11
    exact .inr ⟨rfl, .inl ⟨.pointer (some ⟨X.heap.size, 0, none⟩), X.alloc (.cells rmZ 87), by unfold rmZ; clear hs; go_simp, (Below.refl _ _).alloc (Nat.le_refl _) _, ⟨X.heap.size, rfl, hB.size, heap_alloc_new _ _⟩⟩⟩
   | 6, ho =>
    cases ho
    obtain rfl : 13 = d := Option.some.inj hd
    have g1 : a'.eval (.tmp 1) = .pointer (some ⟨b1, 0, none⟩) := hk 1 (by kernel_rfl)
    generalize a'.eval = ev at g1 |-
    clear hG hk
    obtain ⟨q0, q1, q2⟩ := HQ.out X hB
    exact .inr ⟨rfl, .inl ⟨.pointer (some ⟨b1, 0, none⟩), X, by clear hs; go_simp, Below.refl _ _, rfl⟩⟩
   | 7, ho =>
    cases ho
    obtain rfl : 14 = d := Option.some.inj hd
    have g13 : a'.eval (.tmp 13) = .pointer (some ⟨b1, 0, none⟩) := hG ⟨6, .data⟩ (by simp) rfl 13 rfl
    generalize a'.eval = ev at g13 |-
    clear hG hk
    obtain ⟨q0, q1, q2⟩ := HQ.out X hB
    exact .inr ⟨rfl, .inl ⟨.int .i64 r, X, by clear hs; go_simp, Below.refl _ _, rfl⟩⟩
   | 8, ho =>
    cases ho
    obtain rfl : 15 = d := Option.some.inj hd
    have g1 : a'.eval (.tmp 1) = .pointer (some ⟨b1, 0, none⟩) := hk 1 (by kernel_rfl)
    generalize a'.eval = ev at g1 |-
    clear hG hk
    obtain ⟨q0, q1, q2⟩ := HQ.out X hB
    exact .inr ⟨rfl, .inl ⟨.pointer (some ⟨b1, 1, none⟩), X, by clear hs; go_simp, Below.refl _ _, rfl⟩⟩
   | 9, ho =>
    cases ho
    obtain rfl : 16 = d := Option.some.inj hd
    have g15 : a'.eval (.tmp 15) = .pointer (some ⟨b1, 1, none⟩) := hG ⟨8, .data⟩ (by simp) rfl 15 rfl
    generalize a'.eval = ev at g15 |-
    clear hG hk
    obtain ⟨q0, q1, q2⟩ := HQ.out X hB
    exact .inr ⟨rfl, .inl ⟨.int .i64 c, X, by clear hs; go_simp, Below.refl _ _, rfl⟩⟩
   | 10, ho =>
    cases ho
    obtain rfl : 17 = d := Option.some.inj hd
    have g1 : a'.eval (.tmp 1) = .pointer (some ⟨b1, 0, none⟩) := hk 1 (by kernel_rfl)
    generalize a'.eval = ev at g1 |-
    clear hG hk
    obtain ⟨q0, q1, q2⟩ := HQ.out X hB
    exact .inr ⟨rfl, .inl ⟨.pointer (some ⟨b1, 2, none⟩), X, by clear hs; go_simp, Below.refl _ _, rfl⟩⟩
   | 11, ho =>
    cases ho
    obtain rfl : 18 = d := Option.some.inj hd
    have g17 : a'.eval (.tmp 17) = .pointer (some ⟨b1, 2, none⟩) := hG ⟨10, .data⟩ (by simp) rfl 17 rfl
    generalize a'.eval = ev at g17 |-
    clear hG hk
    obtain ⟨q0, q1, q2⟩ := HQ.out X hB
    exact .inr ⟨rfl, .inl ⟨.int .i64 t, X, by clear hs; go_simp, Below.refl _ _, rfl⟩⟩
   | 12, ho =>
    cases ho
    obtain rfl : 19 = d := Option.some.inj hd
    have g14 : a'.eval (.tmp 14) = .int .i64 r := hG ⟨7, .data⟩ (by simp) rfl 14 rfl
    have g16 : a'.eval (.tmp 16) = .int .i64 c := hG ⟨9, .data⟩ (by simp) rfl 16 rfl
    have g18 : a'.eval (.tmp 18) = .int .i64 t := hG ⟨11, .data⟩ (by simp) rfl 18 rfl
    generalize a'.eval = ev at g14 g16 g18 |-
    clear hG hk
    exact .inr ⟨rfl, .inl ⟨.slice (some ⟨X.heap.size, 0, none⟩) 3 3, X.alloc (.cells #[.int .i64 r, .int .i64 c, .int .i64 t] 3), by clear hs; go_simp, (Below.refl _ _).alloc (Nat.le_refl _) _, ⟨X.heap.size, rfl, hB.size, heap_alloc_new _ _⟩⟩⟩
   | 13, ho =>
    cases ho
    obtain rfl : 20 = d := Option.some.inj hd
    have g10 : PTab W1.heap.size r (a'.eval (.tmp 10)) X := hG ⟨3, .data⟩ (by simp) rfl 10 rfl
    have g12 : PBlk W1.heap.size rmZ 87 (a'.eval (.tmp 12)) X := hG ⟨5, .data⟩ (by simp) rfl 12 rfl
    have g19 : PRow W1.heap.size #[.int .i64 r, .int .i64 c, .int .i64 t] 3 3 (a'.eval (.tmp 19)) X := hG ⟨12, .data⟩ (by simp) rfl 19 rfl
    generalize a'.eval = ev at g10 g12 g19 |-
    clear hG hk
    obtain ⟨rb, g, e10, p1⟩ := g10
    obtain ⟨bm, e12, p2⟩ := g12
    obtain ⟨bd, e19, p3⟩ := g19
    exact .inr ⟨rfl, .inl ⟨.agg #[.pointer (some ⟨rb, 0, none⟩), .pointer (some ⟨bm, 0, none⟩), .slice none 0 0, .slice (some ⟨bd, 0, none⟩) 3 3, .int .i64 0], X, by clear hs p1 p2 p3; go_simp, Below.refl _ _, ⟨_, _, _, rfl, ⟨rb, g, rfl, p1⟩, ⟨bm, rfl, p2⟩, ⟨bd, rfl, p3⟩⟩⟩⟩
   | 14, ho =>
    cases ho
    obtain rfl : 21 = d := Option.some.inj hd
    have g20 : PKer W1.heap.size r c t (a'.eval (.tmp 20)) X := hG ⟨13, .data⟩ (by simp) rfl 20 rfl
    generalize a'.eval = ev at g20 |-
    clear hG hk
    obtain ⟨v10, v12, v19, e20, p1, p2, p3⟩ := g20
    have hbl : Below X.heap.size X (X.alloc (.cells #[v10, v12, .slice none 0 0, v19, .int .i64 0] 39)) := (Below.refl _ _).alloc (Nat.le_refl _) _
    exact .inr ⟨rfl, .inl ⟨.pointer (some ⟨X.heap.size, 0, none⟩), X.alloc (.cells #[v10, v12, .slice none 0 0, v19, .int .i64 0] 39), by clear hs p1 p2 p3 hbl; go_simp, hbl, ⟨X.heap.size, v10, v12, v19, rfl, hB.size, heap_alloc_new _ _, p1.below hbl, p2.below hbl, p3.below hbl⟩⟩⟩
   | j + 15, ho => simp at ho
 · intro a' X hB hs hdf hk hG
   obtain ⟨tm, df⟩ := a'
   obtain rfl : df = [] := hdf
   have g7 : (tm.getD 7 undef) = .pointer (some ⟨b1, 0, none⟩) := hG 0 7 (by decide) rfl
   have g8 : (tm.getD 8 undef) = .int .i64 r := hG 1 8 (by decide) rfl
   have g9 : (tm.getD 9 undef) = .agg #[.int .i64 2, .slice none 0 0] := hG 2 9 (by decide) rfl
   have g10 : PTab W1.heap.size r ((tm.getD 10 undef)) X := hG 3 10 (by decide) rfl
   have g11 : (tm.getD 11 undef) = .agg rmZ := hG 4 11 (by decide) rfl
   have g12 : PBlk W1.heap.size rmZ 87 ((tm.getD 12 undef)) X := hG 5 12 (by decide) rfl
   have g13 : (tm.getD 13 undef) = .pointer (some ⟨b1, 0, none⟩) := hG 6 13 (by decide) rfl
   have g14 : (tm.getD 14 undef) = .int .i64 r := hG 7 14 (by decide) rfl
   have g15 : (tm.getD 15 undef) = .pointer (some ⟨b1, 1, none⟩) := hG 8 15 (by decide) rfl
   have g16 : (tm.getD 16 undef) = .int .i64 c := hG 9 16 (by decide) rfl
   have g17 : (tm.getD 17 undef) = .pointer (some ⟨b1, 2, none⟩) := hG 10 17 (by decide) rfl
   have g18 : (tm.getD 18 undef) = .int .i64 t := hG 11 18 (by decide) rfl
   have g19 : PRow W1.heap.size #[.int .i64 r, .int .i64 c, .int .i64 t] 3 3 ((tm.getD 19 undef)) X := hG 12 19 (by decide) rfl
   have g20 : PKer W1.heap.size r c t ((tm.getD 20 undef)) X := hG 13 20 (by decide) rfl
   have g21 : PKb W1.heap.size r c t ((tm.getD 21 undef)) X := hG 14 21 (by decide) rfl
   have htm := arr3 [.agg #[.int .i64 r, .int .i64 c, .int .i64 t], .pointer (some ⟨b1, 0, none⟩), .pointer none, undef, .agg #[.int .i64 r, .int .i64 c, .int .i64 t], .bool true, .bool false, tm.getD 7 undef, tm.getD 8 undef, tm.getD 9 undef, tm.getD 10 undef, tm.getD 11 undef, tm.getD 12 undef, tm.getD 13 undef, tm.getD 14 undef, tm.getD 15 undef, tm.getD 16 undef, tm.getD 17 undef, tm.getD 18 undef, tm.getD 19 undef, tm.getD 20 undef, tm.getD 21 undef, undef, undef, undef, undef, undef, undef, undef, undef, undef, undef, undef, undef, undef, undef, undef, undef, undef, undef, undef, undef, undef, undef, undef, undef, undef, undef, undef, undef, undef, undef, undef, undef, undef, undef, undef, undef, undef, undef] hs (ae 1 (by exact hk 0 rfl) (ae 2 (by exact hk 1 rfl) (ae 3 (by exact hk 2 rfl) (ae 4 (by exact hk 3 rfl) (ae 5 (by exact hk 4 rfl) (ae 6 (by exact hk 5 rfl) (ae 7 (by exact hk 6 rfl) (ae 8 rfl (ae 9 rfl (ae 10 rfl (ae 11 rfl (ae 12 rfl (ae 13 rfl (ae 14 rfl (ae 15 rfl (ae 16 rfl (ae 17 rfl (ae 18 rfl (ae 19 rfl (ae 20 rfl (ae 21 rfl (ae 22 rfl (ae 23 (by exact hk 22 rfl) (ae 24 (by exact hk 23 rfl) (ae 25 (by exact hk 24 rfl) (ae 26 (by exact hk 25 rfl) (ae 27 (by exact hk 26 rfl) (ae 28 (by exact hk 27 rfl) (ae 29 (by exact hk 28 rfl) (ae 30 (by exact hk 29 rfl) (ae 31 (by exact hk 30 rfl) (ae 32 (by exact hk 31 rfl) (ae 33 (by exact hk 32 rfl) (ae 34 (by exact hk 33 rfl) (ae 35 (by exact hk 34 rfl) (ae 36 (by exact hk 35 rfl) (ae 37 (by exact hk 36 rfl) (ae 38 (by exact hk 37 rfl) (ae 39 (by exact hk 38 rfl) (ae 40 (by exact hk 39 rfl) (ae 41 (by exact hk 40 rfl) (ae 42 (by exact hk 41 rfl) (ae 43 (by exact hk 42 rfl) (ae 44 (by exact hk 43 rfl) (ae 45 (by exact hk 44 rfl) (ae 46 (by exact hk 45 rfl) (ae 47 (by exact hk 46 rfl) (ae 48 (by exact hk 47 rfl) (ae 49 (by exact hk 48 rfl) (ae 50 (by exact hk 49 rfl) (ae 51 (by exact hk 50 rfl) (ae 52 (by exact hk 51 rfl) (ae 53 (by exact hk 52 rfl) (ae 54 (by exact hk 53 rfl) (ae 55 (by exact hk 54 rfl) (ae 56 (by exact hk 55 rfl) (ae 57 (by exact hk 56 rfl) (ae 58 (by exact hk 57 rfl) (ae 59 (by exact hk 58 rfl) (ae 60 (by exact hk 59 rfl) az))))))))))))))))))))))))))))))))))))))))))))))))))))))))))))
   clear hs hk hG
   generalize tm.getD 7 undef = t7 at htm g7
   generalize tm.getD 8 undef = t8 at htm g8
   generalize tm.getD 9 undef = t9 at htm g9
   generalize tm.getD 10 undef = t10 at htm g10
   generalize tm.getD 11 undef = t11 at htm g11
   generalize tm.getD 12 undef = t12 at htm g12
   generalize tm.getD 13 undef = t13 at htm g13
   generalize tm.getD 14 undef = t14 at htm g14
   generalize tm.getD 15 undef = t15 at htm g15
   generalize tm.getD 16 undef = t16 at htm g16
   generalize tm.getD 17 undef = t17 at htm g17
   generalize tm.getD 18 undef = t18 at htm g18
   generalize tm.getD 19 undef = t19 at htm g19
   generalize tm.getD 20 undef = t20 at htm g20
   generalize tm.getD 21 undef = t21 at htm g21
   subst htm
   subst g7
   subst g8
   subst g9
   subst g11
   subst g13
   subst g14
   subst g15
   subst g16
   subst g17
   subst g18
   simp only [List.drop_succ_cons, List.drop_zero]
   obtain ⟨kb, v10, v12, v19, rfl, p0, p1, ⟨rb, g, rfl, p2, p3, p4, p5, p6⟩, ⟨rm, rfl, p7, p8⟩, ⟨dr, rfl, p9, p10⟩⟩ := g21
   clear g10 g12 g19 g20
   obtain ⟨W3, hW3⟩ : ∃ W3, X = W3 := ⟨_, rfl⟩
   rw [hW3] at hB p1 p5 p6 p8 p10 |-
   clear hW3
   obtain ⟨hRS, hRel⟩ := Ho.start_rs (b0 := W1.heap.size) (F := fun k => k = kb) p5 p6 (fun j h => by simp at h) (fun h => by simp at h) p2 p3 (fun k hk => by rw [hk]; exact ⟨p0, (Array.getElem?_eq_some_iff.1 p1).1, cells_ne p1 p5 (by decide), cells_ne p1 p6 (by decide)⟩) (by decide)
   replace hRel : Ho.RelD (Ho.A0 r) _ [] := hRel
   have hK3 : RKS W3 W1.heap.size kb rb rm dr (.slice none 0 0) r c t (Ho.A0 r) := ⟨p1, p8, p10, ⟨g, 1, _, _, hRS, hRel, p2, p3⟩, p0⟩
   have HK3 := Lib.hid hK3
   have HB3 := Lib.hid hB
   have HQ3 : Hid (∀ X, Below W3.heap.size W3 X -> (X.cell? ⟨b1, 0, none⟩ = some (.int .i64 r) /\ X.cell? ⟨b1, 1, none⟩ = some (.int .i64 c) /\ X.cell? ⟨b1, 2, none⟩ = some (.int .i64 t)) /\ X.cell? ⟨kb, 0, none⟩ = some (.pointer (some ⟨rb, 0, none⟩))) := Lib.hid (fun X hX => ⟨HQ.out X (hB.trans (hX.mono hB.size)), by
    have := (HK3.out.below hX).ker
    simp [World.cell?, this]⟩)
   have HM1 : Hid (∀ X, Below W3.heap.size W3 X -> Calls Tryz.prog 20 #[.pointer (some ⟨rb, 0, none⟩), .int .i64 r, .int .i64 c, .int .i64 6, .int .i64 1, .agg #[.int .i64 2, .slice none 0 0]] X fun e W' => e = .returned (.int .i64 0) /\ RKS W' W1.heap.size kb rb rm dr (.slice none 0 0) r c t (Ho.A1 r c) /\ Below W1.heap.size X W') := Lib.hid (fun X hX => by
    obtain ⟨m1, m2⟩ := Ho.make1 (r := r) (c := c) 1 (by decide) HCS.out.2.1 HCS.out.2.2.2.1
    have hm := Ho.rMake_46 (hRS.below hX) hRel (Ho.A0_inv HCS.out.1) r c 6 1 2 none 0 [] (by decide) (fun j h => by simp at h) (fun h => by simp at h) (by decide) m1
    refine hm.mono fun e W' ⟨he, hst⟩ => ?_
    simp only [List.length_cons, List.length_nil, Nat.zero_add] at hst
    rw [m2] at hst
    obtain ⟨k1, k2⟩ := (HK3.out.below hX).make (hRS.below hX) p2 p3 (Nat.le_trans HB3.out.size hX.size) hst
    exact ⟨he, k1, k2⟩)
   clear hRS hRel hK3 hB p1 p5 p6 p8 p10
   go_upto_region 4 with fail
   refine Ko.wp_region_monoT 9 9 (fun kq uq Xq => match kq with | 22 => uq = .pointer (some ⟨kb, 0, none⟩) | 23 => uq = .pointer (some ⟨kb, 0, none⟩) | 24 => uq = .pointer (some ⟨kb, 0, none⟩) | 25 => uq = .pointer (some ⟨rb, 0, none⟩) | 26 => uq = .pointer (some ⟨b1, 0, none⟩) | 27 => uq = .int .i64 r | 28 => uq = .pointer (some ⟨b1, 1, none⟩) | 29 => uq = .int .i64 c | 30 => uq = .agg #[.int .i64 2, .slice none 0 0] | _ => True) (by kernel_rfl) (by kernel_rfl) (by kernel_rfl) (by kernel_rfl) (by simp) (by kernel_rfl) ?_ ?_ ?_
   · intro kq v W W' h hb
     revert h
     try dsimp only
     split
     · intro h; exact h
     · intro h; exact h
     · intro h; exact h
     · intro h; exact h
     · intro h; exact h
     · intro h; exact h
     · intro h; exact h
     · intro h; exact h
     · intro h; exact h
     · intro h; trivial
   · intro a' X hB hs hk i o d ho hd hG
     match i, ho with
     | 0, ho =>
      cases ho
      obtain rfl : 22 = d := Option.some.inj hd
      have g3 : a'.eval (.tmp 3) = .pointer (some ⟨kb, 0, none⟩) := hk 3 (by kernel_rfl)
      generalize a'.eval = ev at g3 |-
      clear hG hk
      obtain ⟨⟨q0, q1, q2⟩, q3⟩ := HQ3.out X hB
      exact .inr ⟨rfl, .inl ⟨.pointer (some ⟨kb, 0, none⟩), X, by clear hs; go_simp, Below.refl _ _, rfl⟩⟩
     | 1, ho =>
      cases ho
      obtain rfl : 23 = d := Option.some.inj hd
      have g22 : a'.eval (.tmp 22) = .pointer (some ⟨kb, 0, none⟩) := hG ⟨0, .data⟩ (by simp) rfl 22 rfl
      generalize a'.eval = ev at g22 |-
      clear hG hk
      obtain ⟨⟨q0, q1, q2⟩, q3⟩ := HQ3.out X hB
      exact .inr ⟨rfl, .inl ⟨.pointer (some ⟨kb, 0, none⟩), X, by clear hs; go_simp, Below.refl _ _, rfl⟩⟩
     | 2, ho =>
      cases ho
      obtain rfl : 24 = d := Option.some.inj hd
      have g23 : a'.eval (.tmp 23) = .pointer (some ⟨kb, 0, none⟩) := hG ⟨1, .data⟩ (by simp) rfl 23 rfl
      generalize a'.eval = ev at g23 |-
      clear hG hk
      obtain ⟨⟨q0, q1, q2⟩, q3⟩ := HQ3.out X hB
      exact .inr ⟨rfl, .inl ⟨.pointer (some ⟨kb, 0, none⟩), X, by clear hs; go_simp, Below.refl _ _, rfl⟩⟩
     | 3, ho =>
      cases ho
      obtain rfl : 25 = d := Option.some.inj hd
      have g24 : a'.eval (.tmp 24) = .pointer (some ⟨kb, 0, none⟩) := hG ⟨2, .data⟩ (by simp) rfl 24 rfl
      generalize a'.eval = ev at g24 |-
      clear hG hk
      obtain ⟨⟨q0, q1, q2⟩, q3⟩ := HQ3.out X hB
      exact .inr ⟨rfl, .inl ⟨.pointer (some ⟨rb, 0, none⟩), X, by clear hs; go_simp, Below.refl _ _, rfl⟩⟩
     | 4, ho =>
      cases ho
      obtain rfl : 26 = d := Option.some.inj hd
      have g1 : a'.eval (.tmp 1) = .pointer (some ⟨b1, 0, none⟩) := hk 1 (by kernel_rfl)
      generalize a'.eval = ev at g1 |-
      clear hG hk
      obtain ⟨⟨q0, q1, q2⟩, q3⟩ := HQ3.out X hB
      exact .inr ⟨rfl, .inl ⟨.pointer (some ⟨b1, 0, none⟩), X, by clear hs; go_simp, Below.refl _ _, rfl⟩⟩
     | 5, ho =>
      cases ho
      obtain rfl : 27 = d := Option.some.inj hd
      have g26 : a'.eval (.tmp 26) = .pointer (some ⟨b1, 0, none⟩) := hG ⟨4, .data⟩ (by simp) rfl 26 rfl
      generalize a'.eval = ev at g26 |-
      clear hG hk
      obtain ⟨⟨q0, q1, q2⟩, q3⟩ := HQ3.out X hB
      exact .inr ⟨rfl, .inl ⟨.int .i64 r, X, by clear hs; go_simp, Below.refl _ _, rfl⟩⟩
     | 6, ho =>
      cases ho
      obtain rfl : 28 = d := Option.some.inj hd
      have g1 : a'.eval (.tmp 1) = .pointer (some ⟨b1, 0, none⟩) := hk 1 (by kernel_rfl)
      generalize a'.eval = ev at g1 |-
      clear hG hk
      obtain ⟨⟨q0, q1, q2⟩, q3⟩ := HQ3.out X hB
      exact .inr ⟨rfl, .inl ⟨.pointer (some ⟨b1, 1, none⟩), X, by clear hs; go_simp, Below.refl _ _, rfl⟩⟩
     | 7, ho =>
      cases ho
      obtain rfl : 29 = d := Option.some.inj hd
      have g28 : a'.eval (.tmp 28) = .pointer (some ⟨b1, 1, none⟩) := hG ⟨6, .data⟩ (by simp) rfl 28 rfl
      generalize a'.eval = ev at g28 |-
      clear hG hk
      obtain ⟨⟨q0, q1, q2⟩, q3⟩ := HQ3.out X hB
      exact .inr ⟨rfl, .inl ⟨.int .i64 c, X, by clear hs; go_simp, Below.refl _ _, rfl⟩⟩
     | 8, ho =>
      cases ho
      obtain rfl : 30 = d := Option.some.inj hd
      have k0 : a'.eval (.const (.int .i64 2)) = (.int .i64 2) := rfl
      refine .inr ⟨rfl, .inr ⟨19, #[.int .i64 2], ?_, ?_⟩⟩
      · have gF : a'.eval (.func 19) = .func (.func 19) #[] #[] := rfl
        generalize a'.eval = ev at gF k0 |-
        exact exec_call1 rfl gF k0 (enters_of Tryz.func19 (by kernel_rfl) rfl)
      · exact (one_lab 2 X).mono fun e W' ⟨he, hb⟩ => ⟨_, he, hb, rfl⟩
     | j + 9, ho => simp at ho
   · intro a' X hB hs hdf hk hG
     obtain ⟨tm, df⟩ := a'
     obtain rfl : df = [] := hdf
     have g22 : (tm.getD 22 undef) = .pointer (some ⟨kb, 0, none⟩) := hG 0 22 (by decide) rfl
     have g23 : (tm.getD 23 undef) = .pointer (some ⟨kb, 0, none⟩) := hG 1 23 (by decide) rfl
     have g24 : (tm.getD 24 undef) = .pointer (some ⟨kb, 0, none⟩) := hG 2 24 (by decide) rfl
     have g25 : (tm.getD 25 undef) = .pointer (some ⟨rb, 0, none⟩) := hG 3 25 (by decide) rfl
     have g26 : (tm.getD 26 undef) = .pointer (some ⟨b1, 0, none⟩) := hG 4 26 (by decide) rfl
     have g27 : (tm.getD 27 undef) = .int .i64 r := hG 5 27 (by decide) rfl
     have g28 : (tm.getD 28 undef) = .pointer (some ⟨b1, 1, none⟩) := hG 6 28 (by decide) rfl
     have g29 : (tm.getD 29 undef) = .int .i64 c := hG 7 29 (by decide) rfl
     have g30 : (tm.getD 30 undef) = .agg #[.int .i64 2, .slice none 0 0] := hG 8 30 (by decide) rfl
     have htm := arr3 [.agg #[.int .i64 r, .int .i64 c, .int .i64 t], .pointer (some ⟨b1, 0, none⟩), .pointer none, .pointer (some ⟨kb, 0, none⟩), .agg #[.int .i64 r, .int .i64 c, .int .i64 t], .bool true, .bool false, .pointer (some ⟨b1, 0, none⟩), .int .i64 r, .agg #[.int .i64 2, .slice none 0 0], t10, .agg rmZ, t12, .pointer (some ⟨b1, 0, none⟩), .int .i64 r, .pointer (some ⟨b1, 1, none⟩), .int .i64 c, .pointer (some ⟨b1, 2, none⟩), .int .i64 t, t19, t20, .pointer (some ⟨kb, 0, none⟩), tm.getD 22 undef, tm.getD 23 undef, tm.getD 24 undef, tm.getD 25 undef, tm.getD 26 undef, tm.getD 27 undef, tm.getD 28 undef, tm.getD 29 undef, tm.getD 30 undef, undef, undef, undef, undef, undef, undef, undef, undef, undef, undef, undef, undef, undef, undef, undef, undef, undef, undef, undef, undef, undef, undef, undef, undef, undef, undef, undef, undef, undef] hs (ae 1 (by exact hk 0 rfl) (ae 2 (by exact hk 1 rfl) (ae 3 (by exact hk 2 rfl) (ae 4 (by exact hk 3 rfl) (ae 5 (by exact hk 4 rfl) (ae 6 (by exact hk 5 rfl) (ae 7 (by exact hk 6 rfl) (ae 8 (by exact hk 7 rfl) (ae 9 (by exact hk 8 rfl) (ae 10 (by exact hk 9 rfl) (ae 11 (by exact hk 10 rfl) (ae 12 (by exact hk 11 rfl) (ae 13 (by exact hk 12 rfl) (ae 14 (by exact hk 13 rfl) (ae 15 (by exact hk 14 rfl) (ae 16 (by exact hk 15 rfl) (ae 17 (by exact hk 16 rfl) (ae 18 (by exact hk 17 rfl) (ae 19 (by exact hk 18 rfl) (ae 20 (by exact hk 19 rfl) (ae 21 (by exact hk 20 rfl) (ae 22 (by exact hk 21 rfl) (ae 23 rfl (ae 24 rfl (ae 25 rfl (ae 26 rfl (ae 27 rfl (ae 28 rfl (ae 29 rfl (ae 30 rfl (ae 31 rfl (ae 32 (by exact hk 31 rfl) (ae 33 (by exact hk 32 rfl) (ae 34 (by exact hk 33 rfl) (ae 35 (by exact hk 34 rfl) (ae 36 (by exact hk 35 rfl) (ae 37 (by exact hk 36 rfl) (ae 38 (by exact hk 37 rfl) (ae 39 (by exact hk 38 rfl) (ae 40 (by exact hk 39 rfl) (ae 41 (by exact hk 40 rfl) (ae 42 (by exact hk 41 rfl) (ae 43 (by exact hk 42 rfl) (ae 44 (by exact hk 43 rfl) (ae 45 (by exact hk 44 rfl) (ae 46 (by exact hk 45 rfl) (ae 47 (by exact hk 46 rfl) (ae 48 (by exact hk 47 rfl) (ae 49 (by exact hk 48 rfl) (ae 50 (by exact hk 49 rfl) (ae 51 (by exact hk 50 rfl) (ae 52 (by exact hk 51 rfl) (ae 53 (by exact hk 52 rfl) (ae 54 (by exact hk 53 rfl) (ae 55 (by exact hk 54 rfl) (ae 56 (by exact hk 55 rfl) (ae 57 (by exact hk 56 rfl) (ae 58 (by exact hk 57 rfl) (ae 59 (by exact hk 58 rfl) (ae 60 (by exact hk 59 rfl) az))))))))))))))))))))))))))))))))))))))))))))))))))))))))))))
     clear hs hk hG
     generalize tm.getD 22 undef = t22 at htm g22
     generalize tm.getD 23 undef = t23 at htm g23
     generalize tm.getD 24 undef = t24 at htm g24
     generalize tm.getD 25 undef = t25 at htm g25
     generalize tm.getD 26 undef = t26 at htm g26
     generalize tm.getD 27 undef = t27 at htm g27
     generalize tm.getD 28 undef = t28 at htm g28
     generalize tm.getD 29 undef = t29 at htm g29
     generalize tm.getD 30 undef = t30 at htm g30
     subst htm
     subst g22
     subst g23
     subst g24
     subst g25
     subst g26
     subst g27
     subst g28
     subst g29
     subst g30
     simp only [List.drop_succ_cons, List.drop_zero]
     have hM := HM1.out X hB
     obtain ⟨W4, hW4⟩ : ∃ W4, X = W4 := ⟨_, rfl⟩
     rw [hW4] at hB hM |-
     have HB4 : Hid (Below W1.heap.size W1 W4) := Lib.hid (HB3.out.trans (hB.mono HB3.out.size))
     have HMM := Lib.hid hM
     clear hW4 hB hM HM1
     go_wp2_with (go_at_call 20; refine HMM.out.mono ?_; rintro e W5 ⟨rfl, hK5, hb5⟩; refine Hid.out ?_)
     refine Lib.hid ?_
     have HB5 : Hid (Below W1.heap.size W1 W5) := Lib.hid (HB4.out.trans hb5)
     have HK5 := Lib.hid hK5
     obtain ⟨g5, cap5, cs5, L5, hRS5, hRel5, l1, l2⟩ := hK5.tab
     have hL5 : L5.length < 4096 := by
      have := Ho.rel_len hRel5 hRS5.nd (K := [c, r]) (fun k hk => by
       by_cases e1 : k = r
       · simp [e1]
       · by_cases e2 : k = c
         · simp [e2]
         · rw [Ho.A1_no e1 e2] at hk; cases hk)
      simp at this; omega
     have HQ5 : Hid (∀ X, Below W5.heap.size W5 X -> (X.cell? ⟨b1, 0, none⟩ = some (.int .i64 r) /\ X.cell? ⟨b1, 1, none⟩ = some (.int .i64 c) /\ X.cell? ⟨b1, 2, none⟩ = some (.int .i64 t)) /\ X.cell? ⟨kb, 0, none⟩ = some (.pointer (some ⟨rb, 0, none⟩))) := Lib.hid (fun X hX => ⟨HQ.out X (HB5.out.trans (hX.mono HB5.out.size)), by
      have := (HK5.out.below hX).ker
      simp [World.cell?, this]⟩)
     have HM2 : Hid (∀ X, Below W5.heap.size W5 X -> Calls Tryz.prog 20 #[.pointer (some ⟨rb, 0, none⟩), .int .i64 r, .int .i64 t, .int .i64 4, .int .i64 1, .agg #[.int .i64 2, .slice none 0 0]] X fun e W' => e = .returned (.int .i64 0) /\ RKS W' W1.heap.size kb rb rm dr (.slice none 0 0) r c t (Ho.A2 r c t) /\ Below W1.heap.size X W') := Lib.hid (fun X hX => by
      obtain ⟨m1, m2⟩ := Ho.make2 (r := r) (c := c) (t := t) L5.length hL5 HCS.out.2.2.1 HCS.out.2.2.2.1 HCS.out.2.2.2.2.1 HCS.out.2.2.2.2.2
      have hm := Ho.rMake_46 (hRS5.below hX) hRel5 (Ho.A1_inv HCS.out.1 HCS.out.2.1 HCS.out.2.2.2.1) r t 4 1 2 none 0 [] (by decide) (fun j h => by simp at h) (fun h => by simp at h) (by decide) m1
      refine hm.mono fun e W' ⟨he, hst⟩ => ?_
      rw [m2] at hst
      obtain ⟨k1, k2⟩ := (HK5.out.below hX).make (hRS5.below hX) l1 l2 (Nat.le_trans HB5.out.size hX.size) hst
      exact ⟨he, k1, k2⟩)
     clear hK5 hb5 hRS5 hRel5 HMM HB4 HQ3 HK3 HB3
     go_upto_region 5 with fail
     refine Ko.wp_region_monoT 9 9 (fun kq uq Xq => match kq with | 32 => uq = .pointer (some ⟨kb, 0, none⟩) | 33 => uq = .pointer (some ⟨kb, 0, none⟩) | 34 => uq = .pointer (some ⟨kb, 0, none⟩) | 35 => uq = .pointer (some ⟨rb, 0, none⟩) | 36 => uq = .pointer (some ⟨b1, 0, none⟩) | 37 => uq = .int .i64 r | 38 => uq = .pointer (some ⟨b1, 2, none⟩) | 39 => uq = .int .i64 t | 40 => uq = .agg #[.int .i64 2, .slice none 0 0] | _ => True) (by kernel_rfl) (by kernel_rfl) (by kernel_rfl) (by kernel_rfl) (by simp) (by kernel_rfl) ?_ ?_ ?_
     · intro kq v W W' h hb
       revert h
       try dsimp only
       split
       · intro h; exact h
       · intro h; exact h
       · intro h; exact h
       · intro h; exact h
       · intro h; exact h
       · intro h; exact h
       · intro h; exact h
       · intro h; exact h
       · intro h; exact h
       · intro h; trivial
     · intro a' X hB hs hk i o d ho hd hG
       match i, ho with
       | 0, ho =>
        cases ho
        obtain rfl : 32 = d := Option.some.inj hd
        have g3 : a'.eval (.tmp 3) = .pointer (some ⟨kb, 0, none⟩) := hk 3 (by kernel_rfl)
        generalize a'.eval = ev at g3 |-
        clear hG hk
        obtain ⟨⟨q0, q1, q2⟩, q3⟩ := HQ5.out X hB
        exact .inr ⟨rfl, .inl ⟨.pointer (some ⟨kb, 0, none⟩), X, by clear hs; go_simp, Below.refl _ _, rfl⟩⟩
       | 1, ho =>
        cases ho
        obtain rfl : 33 = d := Option.some.inj hd
        have g32 : a'.eval (.tmp 32) = .pointer (some ⟨kb, 0, none⟩) := hG ⟨0, .data⟩ (by simp) rfl 32 rfl
        generalize a'.eval = ev at g32 |-
        clear hG hk
        obtain ⟨⟨q0, q1, q2⟩, q3⟩ := HQ5.out X hB
        exact .inr ⟨rfl, .inl ⟨.pointer (some ⟨kb, 0, none⟩), X, by clear hs; go_simp, Below.refl _ _, rfl⟩⟩
       | 2, ho =>
        cases ho
        obtain rfl : 34 = d := Option.some.inj hd
        have g33 : a'.eval (.tmp 33) = .pointer (some ⟨kb, 0, none⟩) := hG ⟨1, .data⟩ (by simp) rfl 33 rfl
        generalize a'.eval = ev at g33 |-
        clear hG hk
        obtain ⟨⟨q0, q1, q2⟩, q3⟩ := HQ5.out X hB
        exact .inr ⟨rfl, .inl ⟨.pointer (some ⟨kb, 0, none⟩), X, by clear hs; go_simp, Below.refl _ _, rfl⟩⟩
       | 3, ho =>
        cases ho
        obtain rfl : 35 = d := Option.some.inj hd
        have g34 : a'.eval (.tmp 34) = .pointer (some ⟨kb, 0, none⟩) := hG ⟨2, .data⟩ (by simp) rfl 34 rfl
        generalize a'.eval = ev at g34 |-
        clear hG hk
        obtain ⟨⟨q0, q1, q2⟩, q3⟩ := HQ5.out X hB
        exact .inr ⟨rfl, .inl ⟨.pointer (some ⟨rb, 0, none⟩), X, by clear hs; go_simp, Below.refl _ _, rfl⟩⟩
       | 4, ho =>
        cases ho
        obtain rfl : 36 = d := Option.some.inj hd
        have g1 : a'.eval (.tmp 1) = .pointer (some ⟨b1, 0, none⟩) := hk 1 (by kernel_rfl)
        generalize a'.eval = ev at g1 |-
        clear hG hk
        obtain ⟨⟨q0, q1, q2⟩, q3⟩ := HQ5.out X hB
        exact .inr ⟨rfl, .inl ⟨.pointer (some ⟨b1, 0, none⟩), X, by clear hs; go_simp, Below.refl _ _, rfl⟩⟩
       | 5, ho =>
        cases ho
        obtain rfl : 37 = d := Option.some.inj hd
        have g36 : a'.eval (.tmp 36) = .pointer (some ⟨b1, 0, none⟩) := hG ⟨4, .data⟩ (by simp) rfl 36 rfl
        generalize a'.eval = ev at g36 |-
        clear hG hk
        obtain ⟨⟨q0, q1, q2⟩, q3⟩ := HQ5.out X hB
        exact .inr ⟨rfl, .inl ⟨.int .i64 r, X, by clear hs; go_simp, Below.refl _ _, rfl⟩⟩
       | 6, ho =>
        cases ho
        obtain rfl : 38 = d := Option.some.inj hd
        have g1 : a'.eval (.tmp 1) = .pointer (some ⟨b1, 0, none⟩) := hk 1 (by kernel_rfl)
        generalize a'.eval = ev at g1 |-
        clear hG hk
        obtain ⟨⟨q0, q1, q2⟩, q3⟩ := HQ5.out X hB
        exact .inr ⟨rfl, .inl ⟨.pointer (some ⟨b1, 2, none⟩), X, by clear hs; go_simp, Below.refl _ _, rfl⟩⟩
       | 7, ho =>
        cases ho
        obtain rfl : 39 = d := Option.some.inj hd
        have g38 : a'.eval (.tmp 38) = .pointer (some ⟨b1, 2, none⟩) := hG ⟨6, .data⟩ (by simp) rfl 38 rfl
        generalize a'.eval = ev at g38 |-
        clear hG hk
        obtain ⟨⟨q0, q1, q2⟩, q3⟩ := HQ5.out X hB
        exact .inr ⟨rfl, .inl ⟨.int .i64 t, X, by clear hs; go_simp, Below.refl _ _, rfl⟩⟩
       | 8, ho =>
        cases ho
        obtain rfl : 40 = d := Option.some.inj hd
        have k0 : a'.eval (.const (.int .i64 2)) = (.int .i64 2) := rfl
        refine .inr ⟨rfl, .inr ⟨19, #[.int .i64 2], ?_, ?_⟩⟩
        · have gF : a'.eval (.func 19) = .func (.func 19) #[] #[] := rfl
          generalize a'.eval = ev at gF k0 |-
          exact exec_call1 rfl gF k0 (enters_of Tryz.func19 (by kernel_rfl) rfl)
        · exact (one_lab 2 X).mono fun e W' ⟨he, hb⟩ => ⟨_, he, hb, rfl⟩
       | j + 9, ho => simp at ho
     · intro a' X hB hs hdf hk hG
       obtain ⟨tm, df⟩ := a'
       obtain rfl : df = [] := hdf
       have g32 : (tm.getD 32 undef) = .pointer (some ⟨kb, 0, none⟩) := hG 0 32 (by decide) rfl
       have g33 : (tm.getD 33 undef) = .pointer (some ⟨kb, 0, none⟩) := hG 1 33 (by decide) rfl
       have g34 : (tm.getD 34 undef) = .pointer (some ⟨kb, 0, none⟩) := hG 2 34 (by decide) rfl
       have g35 : (tm.getD 35 undef) = .pointer (some ⟨rb, 0, none⟩) := hG 3 35 (by decide) rfl
       have g36 : (tm.getD 36 undef) = .pointer (some ⟨b1, 0, none⟩) := hG 4 36 (by decide) rfl
       have g37 : (tm.getD 37 undef) = .int .i64 r := hG 5 37 (by decide) rfl
       have g38 : (tm.getD 38 undef) = .pointer (some ⟨b1, 2, none⟩) := hG 6 38 (by decide) rfl
       have g39 : (tm.getD 39 undef) = .int .i64 t := hG 7 39 (by decide) rfl
       have g40 : (tm.getD 40 undef) = .agg #[.int .i64 2, .slice none 0 0] := hG 8 40 (by decide) rfl
       have htm := arr3 [.agg #[.int .i64 r, .int .i64 c, .int .i64 t], .pointer (some ⟨b1, 0, none⟩), .pointer none, .pointer (some ⟨kb, 0, none⟩), .agg #[.int .i64 r, .int .i64 c, .int .i64 t], .bool true, .bool false, .pointer (some ⟨b1, 0, none⟩), .int .i64 r, .agg #[.int .i64 2, .slice none 0 0], t10, .agg rmZ, t12, .pointer (some ⟨b1, 0, none⟩), .int .i64 r, .pointer (some ⟨b1, 1, none⟩), .int .i64 c, .pointer (some ⟨b1, 2, none⟩), .int .i64 t, t19, t20, .pointer (some ⟨kb, 0, none⟩), .pointer (some ⟨kb, 0, none⟩), .pointer (some ⟨kb, 0, none⟩), .pointer (some ⟨kb, 0, none⟩), .pointer (some ⟨rb, 0, none⟩), .pointer (some ⟨b1, 0, none⟩), .int .i64 r, .pointer (some ⟨b1, 1, none⟩), .int .i64 c, .agg #[.int .i64 2, .slice none 0 0], .int .i64 0, tm.getD 32 undef, tm.getD 33 undef, tm.getD 34 undef, tm.getD 35 undef, tm.getD 36 undef, tm.getD 37 undef, tm.getD 38 undef, tm.getD 39 undef, tm.getD 40 undef, undef, undef, undef, undef, undef, undef, undef, undef, undef, undef, undef, undef, undef, undef, undef, undef, undef, undef, undef] hs (ae 1 (by exact hk 0 rfl) (ae 2 (by exact hk 1 rfl) (ae 3 (by exact hk 2 rfl) (ae 4 (by exact hk 3 rfl) (ae 5 (by exact hk 4 rfl) (ae 6 (by exact hk 5 rfl) (ae 7 (by exact hk 6 rfl) (ae 8 (by exact hk 7 rfl) (ae 9 (by exact hk 8 rfl) (ae 10 (by exact hk 9 rfl) (ae 11 (by exact hk 10 rfl) (ae 12 (by exact hk 11 rfl) (ae 13 (by exact hk 12 rfl) (ae 14 (by exact hk 13 rfl) (ae 15 (by exact hk 14 rfl) (ae 16 (by exact hk 15 rfl) (ae 17 (by exact hk 16 rfl) (ae 18 (by exact hk 17 rfl) (ae 19 (by exact hk 18 rfl) (ae 20 (by exact hk 19 rfl) (ae 21 (by exact hk 20 rfl) (ae 22 (by exact hk 21 rfl) (ae 23 (by exact hk 22 rfl) (ae 24 (by exact hk 23 rfl) (ae 25 (by exact hk 24 rfl) (ae 26 (by exact hk 25 rfl) (ae 27 (by exact hk 26 rfl) (ae 28 (by exact hk 27 rfl) (ae 29 (by exact hk 28 rfl) (ae 30 (by exact hk 29 rfl) (ae 31 (by exact hk 30 rfl) (ae 32 (by exact hk 31 rfl) (ae 33 rfl (ae 34 rfl (ae 35 rfl (ae 36 rfl (ae 37 rfl (ae 38 rfl (ae 39 rfl (ae 40 rfl (ae 41 rfl (ae 42 (by exact hk 41 rfl) (ae 43 (by exact hk 42 rfl) (ae 44 (by exact hk 43 rfl) (ae 45 (by exact hk 44 rfl) (ae 46 (by exact hk 45 rfl) (ae 47 (by exact hk 46 rfl) (ae 48 (by exact hk 47 rfl) (ae 49 (by exact hk 48 rfl) (ae 50 (by exact hk 49 rfl) (ae 51 (by exact hk 50 rfl) (ae 52 (by exact hk 51 rfl) (ae 53 (by exact hk 52 rfl) (ae 54 (by exact hk 53 rfl) (ae 55 (by exact hk 54 rfl) (ae 56 (by exact hk 55 rfl) (ae 57 (by exact hk 56 rfl) (ae 58 (by exact hk 57 rfl) (ae 59 (by exact hk 58 rfl) (ae 60 (by exact hk 59 rfl) az))))))))))))))))))))))))))))))))))))))))))))))))))))))))))))
       clear hs hk hG
       generalize tm.getD 32 undef = t32 at htm g32
       generalize tm.getD 33 undef = t33 at htm g33
       generalize tm.getD 34 undef = t34 at htm g34
       generalize tm.getD 35 undef = t35 at htm g35
       generalize tm.getD 36 undef = t36 at htm g36
       generalize tm.getD 37 undef = t37 at htm g37
       generalize tm.getD 38 undef = t38 at htm g38
       generalize tm.getD 39 undef = t39 at htm g39
       generalize tm.getD 40 undef = t40 at htm g40
       subst htm
       subst g32
       subst g33
       subst g34
       subst g35
       subst g36
       subst g37
       subst g38
       subst g39
       subst g40
       simp only [List.drop_succ_cons, List.drop_zero]
       have hM := HM2.out X hB
       obtain ⟨W6, hW6⟩ : ∃ W6, X = W6 := ⟨_, rfl⟩
       rw [hW6] at hB hM |-
       have HB6 : Hid (Below W1.heap.size W1 W6) := Lib.hid (HB5.out.trans (hB.mono HB5.out.size))
       have HMM := Lib.hid hM
       clear hW6 hB hM HM2
       go_wp2_with (go_at_call 20; refine HMM.out.mono ?_; rintro e W7 ⟨rfl, hK7, hb7⟩; refine Hid.out ?_)
       refine Lib.hid ?_
       have HB7 : Hid (Below W1.heap.size W1 W7) := Lib.hid (HB6.out.trans hb7)
       have HK7 := Lib.hid hK7
       have HQ7 : Hid (∀ X, Below W7.heap.size W7 X -> (X.cell? ⟨b1, 0, none⟩ = some (.int .i64 r) /\ X.cell? ⟨b1, 1, none⟩ = some (.int .i64 c) /\ X.cell? ⟨b1, 2, none⟩ = some (.int .i64 t)) /\ X.cell? ⟨kb, 0, none⟩ = some (.pointer (some ⟨rb, 0, none⟩))) := Lib.hid (fun X hX => ⟨HQ.out X (HB7.out.trans (hX.mono HB7.out.size)), by
        have := (HK7.out.below hX).ker
        simp [World.cell?, this]⟩)
       clear hK7 hb7 HMM HB6 HQ5 HK5 HB5
       go_upto_region 6 with fail
       refine Ko.wp_region_monoT 15 15 (fun kq uq Xq => match kq with | 42 => uq = .pointer (some ⟨kb, 0, none⟩) | 43 => uq = .pointer (some ⟨b1, 0, none⟩) | 44 => uq = .int .i64 r | 45 => uq = .agg #[.int .i64 r, .int .i64 0, .int .i64 0, .int .i64 0, .int .i64 0, .int .i64 0, .slice none 0 0] | 46 => uq = .agg (zO r).cs | 47 => uq = .pointer (some ⟨b1, 1, none⟩) | 48 => uq = .int .i64 c | 49 => uq = .agg #[.int .i64 c, .int .i64 0, .int .i64 0, .int .i64 0, .int .i64 0, .int .i64 0, .slice none 0 0] | 50 => uq = .agg (zO c).cs | 51 => uq = .pointer (some ⟨b1, 2, none⟩) | 52 => uq = .int .i64 t | 53 => uq = .agg #[.int .i64 t, .int .i64 0, .int .i64 0, .int .i64 0, .int .i64 0, .int .i64 0, .slice none 0 0] | 54 => uq = .agg #[.int .i64 4, .slice none 0 0] | 55 => uq = .agg (zT t).cs | 56 => PRow W1.heap.size (all3 r c t).toArray 91 3 (uq) Xq | _ => True) (by kernel_rfl) (by kernel_rfl) (by kernel_rfl) (by kernel_rfl) (by simp) (by kernel_rfl) ?_ ?_ ?_
       · intro kq v W W' h hb
         revert h
         try dsimp only
         split
         · intro h; exact h
         · intro h; exact h
         · intro h; exact h
         · intro h; exact h
         · intro h; exact h
         · intro h; exact h
         · intro h; exact h
         · intro h; exact h
         · intro h; exact h
         · intro h; exact h
         · intro h; exact h
         · intro h; exact h
         · intro h; exact h
         · intro h; exact h
         · intro h; exact h.below hb
         · intro h; trivial
       · intro a' X hB hs hk i o d ho hd hG
         match i, ho with
         | 0, ho =>
          cases ho
          obtain rfl : 42 = d := Option.some.inj hd
          have g3 : a'.eval (.tmp 3) = .pointer (some ⟨kb, 0, none⟩) := hk 3 (by kernel_rfl)
          generalize a'.eval = ev at g3 |-
          clear hG hk
          obtain ⟨⟨q0, q1, q2⟩, q3⟩ := HQ7.out X hB
          exact .inr ⟨rfl, .inl ⟨.pointer (some ⟨kb, 0, none⟩), X, by clear hs; go_simp, Below.refl _ _, rfl⟩⟩
         | 1, ho =>
          cases ho
          obtain rfl : 43 = d := Option.some.inj hd
          have g1 : a'.eval (.tmp 1) = .pointer (some ⟨b1, 0, none⟩) := hk 1 (by kernel_rfl)
          generalize a'.eval = ev at g1 |-
          clear hG hk
          obtain ⟨⟨q0, q1, q2⟩, q3⟩ := HQ7.out X hB
          exact .inr ⟨rfl, .inl ⟨.pointer (some ⟨b1, 0, none⟩), X, by clear hs; go_simp, Below.refl _ _, rfl⟩⟩
         | 2, ho =>
          cases ho
          obtain rfl : 44 = d := Option.some.inj hd
          have g43 : a'.eval (.tmp 43) = .pointer (some ⟨b1, 0, none⟩) := hG ⟨1, .data⟩ (by simp) rfl 43 rfl
          generalize a'.eval = ev at g43 |-
          clear hG hk
          obtain ⟨⟨q0, q1, q2⟩, q3⟩ := HQ7.out X hB
          exact .inr ⟨rfl, .inl ⟨.int .i64 r, X, by clear hs; go_simp, Below.refl _ _, rfl⟩⟩
         | 3, ho =>
          cases ho
          obtain rfl : 45 = d := Option.some.inj hd
          have g44 : a'.eval (.tmp 44) = .int .i64 r := hG ⟨2, .data⟩ (by simp) rfl 44 rfl
          generalize a'.eval = ev at g44 |-
          clear hG hk
          obtain ⟨⟨q0, q1, q2⟩, q3⟩ := HQ7.out X hB
          exact .inr ⟨rfl, .inl ⟨.agg #[.int .i64 r, .int .i64 0, .int .i64 0, .int .i64 0, .int .i64 0, .int .i64 0, .slice none 0 0], X, by clear hs; go_simp, Below.refl _ _, rfl⟩⟩
         | 4, ho =>
          cases ho
          obtain rfl : 46 = d := Option.some.inj hd
          have g45 : a'.eval (.tmp 45) = .agg #[.int .i64 r, .int .i64 0, .int .i64 0, .int .i64 0, .int .i64 0, .int .i64 0, .slice none 0 0] := hG ⟨3, .data⟩ (by simp) rfl 45 rfl
          generalize a'.eval = ev at g45 |-
          clear hG hk
          exact .inr ⟨rfl, .inl ⟨.agg (zO r).cs, X, by rw [<- zO_cs]; clear hs; go_simp, Below.refl _ _, rfl⟩⟩
         | 5, ho =>
          cases ho
          obtain rfl : 47 = d := Option.some.inj hd
          have g1 : a'.eval (.tmp 1) = .pointer (some ⟨b1, 0, none⟩) := hk 1 (by kernel_rfl)
          generalize a'.eval = ev at g1 |-
          clear hG hk
          obtain ⟨⟨q0, q1, q2⟩, q3⟩ := HQ7.out X hB
          exact .inr ⟨rfl, .inl ⟨.pointer (some ⟨b1, 1, none⟩), X, by clear hs; go_simp, Below.refl _ _, rfl⟩⟩
         | 6, ho =>
          cases ho
          obtain rfl : 48 = d := Option.some.inj hd
          have g47 : a'.eval (.tmp 47) = .pointer (some ⟨b1, 1, none⟩) := hG ⟨5, .data⟩ (by simp) rfl 47 rfl
          generalize a'.eval = ev at g47 |-
          clear hG hk
          obtain ⟨⟨q0, q1, q2⟩, q3⟩ := HQ7.out X hB
          exact .inr ⟨rfl, .inl ⟨.int .i64 c, X, by clear hs; go_simp, Below.refl _ _, rfl⟩⟩
         | 7, ho =>
          cases ho
          obtain rfl : 49 = d := Option.some.inj hd
          have g48 : a'.eval (.tmp 48) = .int .i64 c := hG ⟨6, .data⟩ (by simp) rfl 48 rfl
          generalize a'.eval = ev at g48 |-
          clear hG hk
          obtain ⟨⟨q0, q1, q2⟩, q3⟩ := HQ7.out X hB
          exact .inr ⟨rfl, .inl ⟨.agg #[.int .i64 c, .int .i64 0, .int .i64 0, .int .i64 0, .int .i64 0, .int .i64 0, .slice none 0 0], X, by clear hs; go_simp, Below.refl _ _, rfl⟩⟩
         | 8, ho =>
          cases ho
          obtain rfl : 50 = d := Option.some.inj hd
          have g49 : a'.eval (.tmp 49) = .agg #[.int .i64 c, .int .i64 0, .int .i64 0, .int .i64 0, .int .i64 0, .int .i64 0, .slice none 0 0] := hG ⟨7, .data⟩ (by simp) rfl 49 rfl
          generalize a'.eval = ev at g49 |-
          clear hG hk
          exact .inr ⟨rfl, .inl ⟨.agg (zO c).cs, X, by rw [<- zO_cs]; clear hs; go_simp, Below.refl _ _, rfl⟩⟩
         | 9, ho =>
          cases ho
          obtain rfl : 51 = d := Option.some.inj hd
          have g1 : a'.eval (.tmp 1) = .pointer (some ⟨b1, 0, none⟩) := hk 1 (by kernel_rfl)
          generalize a'.eval = ev at g1 |-
          clear hG hk
          obtain ⟨⟨q0, q1, q2⟩, q3⟩ := HQ7.out X hB
          exact .inr ⟨rfl, .inl ⟨.pointer (some ⟨b1, 2, none⟩), X, by clear hs; go_simp, Below.refl _ _, rfl⟩⟩
         | 10, ho =>
          cases ho
          obtain rfl : 52 = d := Option.some.inj hd
          have g51 : a'.eval (.tmp 51) = .pointer (some ⟨b1, 2, none⟩) := hG ⟨9, .data⟩ (by simp) rfl 51 rfl
          generalize a'.eval = ev at g51 |-
          clear hG hk
          obtain ⟨⟨q0, q1, q2⟩, q3⟩ := HQ7.out X hB
          exact .inr ⟨rfl, .inl ⟨.int .i64 t, X, by clear hs; go_simp, Below.refl _ _, rfl⟩⟩
         | 11, ho =>
          cases ho
          obtain rfl : 53 = d := Option.some.inj hd
          have g52 : a'.eval (.tmp 52) = .int .i64 t := hG ⟨10, .data⟩ (by simp) rfl 52 rfl
          generalize a'.eval = ev at g52 |-
          clear hG hk
          obtain ⟨⟨q0, q1, q2⟩, q3⟩ := HQ7.out X hB
          exact .inr ⟨rfl, .inl ⟨.agg #[.int .i64 t, .int .i64 0, .int .i64 0, .int .i64 0, .int .i64 0, .int .i64 0, .slice none 0 0], X, by clear hs; go_simp, Below.refl _ _, rfl⟩⟩
         | 12, ho =>
          cases ho
          obtain rfl : 54 = d := Option.some.inj hd
          have k0 : a'.eval (.const (.int .i64 4)) = (.int .i64 4) := rfl
          refine .inr ⟨rfl, .inr ⟨19, #[.int .i64 4], ?_, ?_⟩⟩
          · have gF : a'.eval (.func 19) = .func (.func 19) #[] #[] := rfl
            generalize a'.eval = ev at gF k0 |-
            exact exec_call1 rfl gF k0 (enters_of Tryz.func19 (by kernel_rfl) rfl)
          · exact (one_lab 4 X).mono fun e W' ⟨he, hb⟩ => ⟨_, he, hb, rfl⟩
         | 13, ho =>
          cases ho
          obtain rfl : 55 = d := Option.some.inj hd
          have g53 : a'.eval (.tmp 53) = .agg #[.int .i64 t, .int .i64 0, .int .i64 0, .int .i64 0, .int .i64 0, .int .i64 0, .slice none 0 0] := hG ⟨11, .data⟩ (by simp) rfl 53 rfl
          have g54 : a'.eval (.tmp 54) = .agg #[.int .i64 4, .slice none 0 0] := hG ⟨12, .data⟩ (by simp) rfl 54 rfl
          generalize a'.eval = ev at g53 g54 |-
          clear hG hk
          exact .inr ⟨rfl, .inl ⟨.agg (zT t).cs, X, by rw [<- zT_cs]; clear hs; go_simp, Below.refl _ _, rfl⟩⟩
         | 14, ho =>
          cases ho
          obtain rfl : 56 = d := Option.some.inj hd
          have g46 : a'.eval (.tmp 46) = .agg (zO r).cs := hG ⟨4, .data⟩ (by simp) rfl 46 rfl
          have g50 : a'.eval (.tmp 50) = .agg (zO c).cs := hG ⟨8, .data⟩ (by simp) rfl 50 rfl
          have g55 : a'.eval (.tmp 55) = .agg (zT t).cs := hG ⟨13, .data⟩ (by simp) rfl 55 rfl
          generalize a'.eval = ev at g46 g50 g55 |-
          clear hG hk
          exact .inr ⟨rfl, .inl ⟨.slice (some ⟨X.heap.size, 0, none⟩) 3 3, X.alloc (.cells (all3 r c t).toArray 91), exec_slice 36 91 3 _ rfl Tryz.underlying36 _ (by simp only [List.map_toArray, List.map_cons, List.map_nil, g46, g50, g55]; exact built3 r c t), (Below.refl _ _).alloc (Nat.le_refl _) _, ⟨X.heap.size, rfl, Nat.le_trans HB7.out.size hB.size, heap_alloc_new _ _⟩⟩⟩
         | j + 15, ho => simp at ho
       · intro a' X hB hs hdf hk hG
         obtain ⟨tm, df⟩ := a'
         obtain rfl : df = [] := hdf
         have g42 : (tm.getD 42 undef) = .pointer (some ⟨kb, 0, none⟩) := hG 0 42 (by decide) rfl
         have g43 : (tm.getD 43 undef) = .pointer (some ⟨b1, 0, none⟩) := hG 1 43 (by decide) rfl
         have g44 : (tm.getD 44 undef) = .int .i64 r := hG 2 44 (by decide) rfl
         have g45 : (tm.getD 45 undef) = .agg #[.int .i64 r, .int .i64 0, .int .i64 0, .int .i64 0, .int .i64 0, .int .i64 0, .slice none 0 0] := hG 3 45 (by decide) rfl
         have g46 : (tm.getD 46 undef) = .agg (zO r).cs := hG 4 46 (by decide) rfl
         have g47 : (tm.getD 47 undef) = .pointer (some ⟨b1, 1, none⟩) := hG 5 47 (by decide) rfl
         have g48 : (tm.getD 48 undef) = .int .i64 c := hG 6 48 (by decide) rfl
         have g49 : (tm.getD 49 undef) = .agg #[.int .i64 c, .int .i64 0, .int .i64 0, .int .i64 0, .int .i64 0, .int .i64 0, .slice none 0 0] := hG 7 49 (by decide) rfl
         have g50 : (tm.getD 50 undef) = .agg (zO c).cs := hG 8 50 (by decide) rfl
         have g51 : (tm.getD 51 undef) = .pointer (some ⟨b1, 2, none⟩) := hG 9 51 (by decide) rfl
         have g52 : (tm.getD 52 undef) = .int .i64 t := hG 10 52 (by decide) rfl
         have g53 : (tm.getD 53 undef) = .agg #[.int .i64 t, .int .i64 0, .int .i64 0, .int .i64 0, .int .i64 0, .int .i64 0, .slice none 0 0] := hG 11 53 (by decide) rfl
         have g54 : (tm.getD 54 undef) = .agg #[.int .i64 4, .slice none 0 0] := hG 12 54 (by decide) rfl
         have g55 : (tm.getD 55 undef) = .agg (zT t).cs := hG 13 55 (by decide) rfl
         have g56 : PRow W1.heap.size (all3 r c t).toArray 91 3 ((tm.getD 56 undef)) X := hG 14 56 (by decide) rfl
         have htm := arr3 [.agg #[.int .i64 r, .int .i64 c, .int .i64 t], .pointer (some ⟨b1, 0, none⟩), .pointer none, .pointer (some ⟨kb, 0, none⟩), .agg #[.int .i64 r, .int .i64 c, .int .i64 t], .bool true, .bool false, .pointer (some ⟨b1, 0, none⟩), .int .i64 r, .agg #[.int .i64 2, .slice none 0 0], t10, .agg rmZ, t12, .pointer (some ⟨b1, 0, none⟩), .int .i64 r, .pointer (some ⟨b1, 1, none⟩), .int .i64 c, .pointer (some ⟨b1, 2, none⟩), .int .i64 t, t19, t20, .pointer (some ⟨kb, 0, none⟩), .pointer (some ⟨kb, 0, none⟩), .pointer (some ⟨kb, 0, none⟩), .pointer (some ⟨kb, 0, none⟩), .pointer (some ⟨rb, 0, none⟩), .pointer (some ⟨b1, 0, none⟩), .int .i64 r, .pointer (some ⟨b1, 1, none⟩), .int .i64 c, .agg #[.int .i64 2, .slice none 0 0], .int .i64 0, .pointer (some ⟨kb, 0, none⟩), .pointer (some ⟨kb, 0, none⟩), .pointer (some ⟨kb, 0, none⟩), .pointer (some ⟨rb, 0, none⟩), .pointer (some ⟨b1, 0, none⟩), .int .i64 r, .pointer (some ⟨b1, 2, none⟩), .int .i64 t, .agg #[.int .i64 2, .slice none 0 0], .int .i64 0, tm.getD 42 undef, tm.getD 43 undef, tm.getD 44 undef, tm.getD 45 undef, tm.getD 46 undef, tm.getD 47 undef, tm.getD 48 undef, tm.getD 49 undef, tm.getD 50 undef, tm.getD 51 undef, tm.getD 52 undef, tm.getD 53 undef, tm.getD 54 undef, tm.getD 55 undef, tm.getD 56 undef, undef, undef, undef] hs (ae 1 (by exact hk 0 rfl) (ae 2 (by exact hk 1 rfl) (ae 3 (by exact hk 2 rfl) (ae 4 (by exact hk 3 rfl) (ae 5 (by exact hk 4 rfl) (ae 6 (by exact hk 5 rfl) (ae 7 (by exact hk 6 rfl) (ae 8 (by exact hk 7 rfl) (ae 9 (by exact hk 8 rfl) (ae 10 (by exact hk 9 rfl) (ae 11 (by exact hk 10 rfl) (ae 12 (by exact hk 11 rfl) (ae 13 (by exact hk 12 rfl) (ae 14 (by exact hk 13 rfl) (ae 15 (by exact hk 14 rfl) (ae 16 (by exact hk 15 rfl) (ae 17 (by exact hk 16 rfl) (ae 18 (by exact hk 17 rfl) (ae 19 (by exact hk 18 rfl) (ae 20 (by exact hk 19 rfl) (ae 21 (by exact hk 20 rfl) (ae 22 (by exact hk 21 rfl) (ae 23 (by exact hk 22 rfl) (ae 24 (by exact hk 23 rfl) (ae 25 (by exact hk 24 rfl) (ae 26 (by exact hk 25 rfl) (ae 27 (by exact hk 26 rfl) (ae 28 (by exact hk 27 rfl) (ae 29 (by exact hk 28 rfl) (ae 30 (by exact hk 29 rfl) (ae 31 (by exact hk 30 rfl) (ae 32 (by exact hk 31 rfl) (ae 33 (by exact hk 32 rfl) (ae 34 (by exact hk 33 rfl) (ae 35 (by exact hk 34 rfl) (ae 36 (by exact hk 35 rfl) (ae 37 (by exact hk 36 rfl) (ae 38 (by exact hk 37 rfl) (ae 39 (by exact hk 38 rfl) (ae 40 (by exact hk 39 rfl) (ae 41 (by exact hk 40 rfl) (ae 42 (by exact hk 41 rfl) (ae 43 rfl (ae 44 rfl (ae 45 rfl (ae 46 rfl (ae 47 rfl (ae 48 rfl (ae 49 rfl (ae 50 rfl (ae 51 rfl (ae 52 rfl (ae 53 rfl (ae 54 rfl (ae 55 rfl (ae 56 rfl (ae 57 rfl (ae 58 (by exact hk 57 rfl) (ae 59 (by exact hk 58 rfl) (ae 60 (by exact hk 59 rfl) az))))))))))))))))))))))))))))))))))))))))))))))))))))))))))))
         clear hs hk hG
         generalize tm.getD 42 undef = t42 at htm g42
         generalize tm.getD 43 undef = t43 at htm g43
         generalize tm.getD 44 undef = t44 at htm g44
         generalize tm.getD 45 undef = t45 at htm g45
         generalize tm.getD 46 undef = t46 at htm g46
         generalize tm.getD 47 undef = t47 at htm g47
         generalize tm.getD 48 undef = t48 at htm g48
         generalize tm.getD 49 undef = t49 at htm g49
         generalize tm.getD 50 undef = t50 at htm g50
         generalize tm.getD 51 undef = t51 at htm g51
         generalize tm.getD 52 undef = t52 at htm g52
         generalize tm.getD 53 undef = t53 at htm g53
         generalize tm.getD 54 undef = t54 at htm g54
         generalize tm.getD 55 undef = t55 at htm g55
         generalize tm.getD 56 undef = t56 at htm g56
         subst htm
         subst g42
         subst g43
         subst g44
         subst g45
         subst g46
         subst g47
         subst g48
         subst g49
         subst g50
         subst g51
         subst g52
         subst g53
         subst g54
         subst g55
         simp only [List.drop_succ_cons, List.drop_zero]
         obtain ⟨al, rfl, a1, a2⟩ := g56
         obtain ⟨W8, hW8⟩ : ∃ W8, X = W8 := ⟨_, rfl⟩
         rw [hW8] at hB a2 |-
         have hK8 := HK7.out.below hB
         have f2 : W8.frozen? ⟨kb, 2, none⟩ = false := by have := hK8.ker; simp [World.frozen?, this]
         have c2 : W8.cell? ⟨kb, 2, none⟩ = some (.slice none 0 0) := by have := hK8.ker; simp [World.cell?, this]
         have HK9 := Lib.hid (hK8.all (.slice (some ⟨al, 0, none⟩) 3 3))
         have HA9 : Hid ((W8.setCell ⟨kb, 2, none⟩ (.slice (some ⟨al, 0, none⟩) 3 3)).heap[al]? = some (.cells (all3 r c t).toArray 91 (0, 0))) := Lib.hid ((Below.heap_setCell W8 ⟨kb, 2, none⟩ _ al (cells_ne a2 hK8.ker (by decide))).trans a2)
         have HBE : Hid (Below w.heap.size w (W8.setCell ⟨kb, 2, none⟩ (.slice (some ⟨al, 0, none⟩) 3 3))) := Lib.hid (by
          have h5 : Below W1.heap.size W1 W8 := HB7.out.trans (hB.mono HB7.out.size)
          have h6 : Below w.heap.size w W8 := by have := HB1.out.trans (h5.mono HB1.out.size); exact this
          exact h6.setCell (p := ⟨kb, 2, none⟩) (Nat.le_trans HB1.out.size hK8.lk) _)
         clear hB a2 hW8 hK8
         go_wp2
         go_ret
         exact ⟨kb, rb, rm, dr, al, rfl, HK9.out.mono HB1.out.size, HA9.out, HBE.out⟩
end Go.Proofs.YtmgfakfiiaeofaaGreat
