/- What target of package kern answers. -/
import Derived.Test.YtmgfakfiiaeofaaGreatSq
import Derived.Test.YtmgfakfiiaeofaaGreatKTarg
namespace Go.Proofs.YtmgfakfiiaeofaaGreat
open Go.RowKit Go.Sort
set_option maxRecDepth 100000 in
set_option maxHeartbeats 2000000 in
theorem target_alters {lo cb : Nat} {W : World} {K : Kn} {x : Ask} {y : Who} {dr : Int} (hC : ClAt W cb K.kb x y dr) (hK : KAt lo W K) (pi pj kd : Int) (hpi : Ho.i64 pi) (hpj : Ho.i64 pj) (r o : Ho.Rc) (hT : K.T pi = some r) (hk : r.ob.kind = 1) (hl : r.ob.cats.length <= 16)
 (xs : List (Int × Int)) (hw : Pa.LV (y.d, xs) (.agg #[.int .i64 y.d, y.v]) W) (hs : Pa.seesS y.d r.ob.df xs r.ob.cats = true) (hen : ∀ q, K.T pi = some q -> q.ob.ents.length < 1000000) (hE : Ho.entE K.T pi pj = 0) (hT2 : K.T pj = some o) (hl2 : o.ob.cats.length <= 16) (hkd : o.ob.kind = kd) (hkd0 : kd ≠ 0)
 (wv : Value) (hm : ∀ W' u, Below W.heap.size W W' -> Pa.LV (o.ob.df, o.ob.cats) u W' -> Calls Tryz.prog 129 #[wv, u] W' fun e W'' => e = .returned (.bool true) /\ Below W'.heap.size W' W'') :
 Calls Tryz.prog 128 #[.pointer (some ⟨cb, 0, none⟩), .agg #[.int .i64 pi, .int .i64 pj], .int .i64 kd, .func (.func 129) #[wv] #[]] W fun e W' => ∃ sp cp, e = .returned (.tuple #[Ho.infoV o (.slice sp o.ob.cats.length cp), .int .i64 0]) /\ Below W.heap.size W W' := by
 obtain ⟨W0, hW0⟩ : ∃ W0, (W.alloc (.cells #[.int .i64 pi, .int .i64 pj] 43)).alloc (.cells #[.int .i64 0, .int .i64 0, .int .i64 0, .int .i64 0, .int .i64 0, .int .i64 0, .slice none 0 0] 89) = W0 := ⟨_, rfl⟩
 have hb0 : Below W.heap.size W W0 := by rw [<- hW0]; go_grown
 have hi5 : W0.heap[W.heap.size]? = some (.cells #[.int .i64 pi, .int .i64 pj] 43 (0, 0)) := by rw [<- hW0]; rw [Below.heap_alloc _ _ _ (by simp)]; exact heap_alloc_new _ _
 have hi8 : W0.heap[W.heap.size + 1]? = some (.cells #[.int .i64 0, .int .i64 0, .int .i64 0, .int .i64 0, .int .i64 0, .int .i64 0, .slice none 0 0] 89 (0, 0)) := by rw [<- hW0]; have := heap_alloc_new (W.alloc (.cells #[.int .i64 pi, .int .i64 pj] 43)) (.cells #[.int .i64 0, .int .i64 0, .int .i64 0, .int .i64 0, .int .i64 0, .int .i64 0, .slice none 0 0] 89); rwa [show (W.alloc (.cells #[.int .i64 pi, .int .i64 pj] 43)).heap.size = W.heap.size + 1 from by simp] at this
 have hz0 : W.heap.size + 1 < W0.heap.size := by rw [<- hW0]; simp
 have q0 : W0.cell? ⟨W.heap.size, 0, none⟩ = some (.int .i64 pi) := by simp [World.cell?, hi5]
 have q1 : W0.cell? ⟨W.heap.size, 1, none⟩ = some (.int .i64 pj) := by simp [World.cell?, hi5]
 have HK := Lib.hid hK
 have HC := Lib.hid hC
 have HCo := Lib.hid (container_ok (hC.below hb0) (hK.below hb0) pi hpi r hT hk hl xs (hw.below hb0) hs)
 have HB0 := Lib.hid hb0
 have Hi5 := Lib.hid hi5
 have Hi8 := Lib.hid hi8
 have HM := Lib.hid hm
 have Hkd := Lib.hid hkd
 clear hkd
 obtain ⟨i5, hi5e⟩ : ∃ i5, W.heap.size = i5 := ⟨_, rfl⟩
 have Hi5e := Lib.hid hi5e
 clear hC hb0 hi5 hi8 hw hm hK
 go_enter Tryz.func128, Tryz.ntmps128
 go_upto_region 1 with fail
 rw [hi5e] at hz0 q0 q1 Hi5 Hi8
 clear hW0 hi5e
 go_wp2_with (go_at_call 130; refine HCo.out.mono ?_; rintro e W1 ⟨v, rfl, ⟨p1, cp1, hv1, -⟩, hb1⟩; simp at hv1; subst hv1; refine Hid.out ?_)
 refine Lib.hid ?_
 unfold Ho.infoV
 rw [hk]
 clear hk
 obtain ⟨i8, hi8e⟩ : ∃ i8, i5 + 1 = i8 := ⟨_, rfl⟩
 have h58 : i5 < i8 := by omega
 have Hi8e := Lib.hid hi8e
 rw [hi8e] at hz0 Hi8 |-
 clear hi8e
 obtain ⟨W2, hW2⟩ : ∃ W2, W1.alloc (.cells #[.int .i64 r.ob.id, .int .i64 1, .int .i64 r.ob.quota, .int .i64 r.ob.used, .int .i64 r.ob.links, .int .i64 r.ob.df, .slice p1 r.ob.cats.length cp1] 89) = W2 := ⟨_, rfl⟩
 have hb2 : Below W1.heap.size W1 W2 := by rw [<- hW2]; exact (Below.refl _ _).alloc (Nat.le_refl _) _
 have hz1 : i8 < W1.heap.size := Nat.lt_of_lt_of_le hz0 hb1.size
 have hz2 : i8 < W2.heap.size := Nat.lt_of_lt_of_le hz1 hb2.size
 have hb02 : Below W.heap.size W W2 := by
  have h5 := Hi5e.out
  exact (HB0.out.trans (hb1.mono (by omega))).trans (hb2.mono (by omega))
 have e5 : W2.heap[i5]? = W0.heap[i5]? := (hb2.block i5 (by omega)).trans (hb1.block i5 (by omega))
 have e8 : W2.heap[i8]? = W0.heap[i8]? := (hb2.block i8 (by omega)).trans (hb1.block i8 (by omega))
 have Hi8W := Lib.hid (e8.trans Hi8.out)
 have p0 : W2.cell? ⟨i5, 0, none⟩ = some (.int .i64 pi) := (World.cell?_of_block (a := ⟨i5, 0, none⟩) e5).trans q0
 have p1 : W2.cell? ⟨i5, 1, none⟩ = some (.int .i64 pj) := (World.cell?_of_block (a := ⟨i5, 1, none⟩) e5).trans q1
 have hC2 := HC.out.below hb02
 have hK2 := HK.out.below hb02
 have c0 : W2.cell? ⟨cb, 0, none⟩ = some (.pointer (some ⟨K.kb, 0, none⟩)) := hC2.cell 0
 have k0 : W2.cell? ⟨K.kb, 0, none⟩ = some (.pointer (some ⟨K.tb, 0, none⟩)) := hK2.cell 0
 have HC2 := Lib.hid hC2
 have HK2 := Lib.hid hK2
 have HB2 := Lib.hid hb02
 have HH : Hid (∀ n, Calls Tryz.prog 177 #[.pointer (some ⟨K.tb, 0, none⟩), .int .i64 pi, .int .i64 pj] (W2.drewN n) fun e W' => e = .returned (.bool true) /\ W' = W2.drewN n) := Lib.hid (fun n => by
  have := Ho.Has_any ((HK2.out.below (drew_below _ W2 n)).tab) pi pj hpi hpj hen
  rw [hE] at this
  exact this)
 clear hb1 hb2 hb02 e5 e8 q0 q1 hC2 hK2 HCo Hi8 Hi5
 go_upto_region 2 with fail
 clear hW2
 refine Ko.wp_region_tail_d 14 (by kernel_rfl) (by kernel_rfl) ?_
 simp only [List.take_succ_cons, List.take_zero, List.drop_succ_cons, List.drop_zero]
 repeat (go_big_quiet_step (fail))
 refine wpQuiet_nil ?_
 intro _ hw'
 obtain ⟨nz, hw''⟩ := hw'
 subst hw''
 go_wp2_with (go_at_call 177; refine (HH.out _).mono ?_; rintro e W3 ⟨rfl, rfl⟩; refine Hid.out ?_)
 refine Lib.hid ?_
 obtain ⟨W3, hW3⟩ : ∃ W3, W2.drewN nz = W3 := ⟨_, rfl⟩
 have hb3 : Below W2.heap.size W2 W3 := by rw [<- hW3]; exact drew_below _ _ _
 rw [hW3]
 have p0' : W3.cell? ⟨i5, 0, none⟩ = some (.int .i64 pi) := by rw [<- hW3]; exact p0
 have p1' : W3.cell? ⟨i5, 1, none⟩ = some (.int .i64 pj) := by rw [<- hW3]; exact p1
 have c0' : W3.cell? ⟨cb, 0, none⟩ = some (.pointer (some ⟨K.kb, 0, none⟩)) := by rw [<- hW3]; exact c0
 have k0' : W3.cell? ⟨K.kb, 0, none⟩ = some (.pointer (some ⟨K.tb, 0, none⟩)) := by rw [<- hW3]; exact k0
 have Hi8X := Lib.hid ((show W3.heap[i8]? = W2.heap[i8]? from by rw [<- hW3]; rfl).trans Hi8W.out)
 have HK3 := Lib.hid (HK2.out.below hb3)
 have HC3 := Lib.hid (HC2.out.below hb3)
 have HB3 := Lib.hid (HB2.out.trans (hb3.mono HB2.out.size))
 have hz3 : i8 < W3.heap.size := Nat.lt_of_lt_of_le hz2 hb3.size
 clear p0 p1 c0 k0 hW3 hb3 HH HC2 HK2 HB2 Hi8W
 go_upto_region 4 with fail
 have HI := Lib.hid (fun X (hb : Below W3.heap.size W3 X) => Ho.Info_any ((HK3.out.below hb).tab) pj hpj o hT2 (by omega))
 have HQ : Hid (∀ X, Below W3.heap.size W3 X -> (X.cell? ⟨i5, 0, none⟩ = some (.int .i64 pi) /\ X.cell? ⟨i5, 1, none⟩ = some (.int .i64 pj)) /\ X.cell? ⟨cb, 0, none⟩ = some (.pointer (some ⟨K.kb, 0, none⟩)) /\ X.cell? ⟨K.kb, 0, none⟩ = some (.pointer (some ⟨K.tb, 0, none⟩))) := Lib.hid (fun X hb => ⟨⟨(hb.cell (p := ⟨i5, 0, none⟩) (by show i5 < _; omega)).trans p0', (hb.cell (p := ⟨i5, 1, none⟩) (by show i5 < _; omega)).trans p1'⟩, (HC3.out.below hb).cell 0, (HK3.out.below hb).cell 0⟩)
 obtain ⟨tg, -⟩ : ∃ tg : Nat -> Option Nat, tg = (fun i => if i = 14 then some 12 else none) := ⟨_, rfl⟩
 refine Ko.wp_region_own (fun i => if i = 14 then some 12 else none) (fun d own env li W => match d with | 40 => env 40 = .pointer (some ⟨cb, 0, none⟩) | 41 => env 41 = .pointer (some ⟨cb, 0, none⟩) | 42 => env 42 = .pointer (some ⟨cb, 0, none⟩) | 43 => env 43 = .pointer (some ⟨K.kb, 0, none⟩) | 44 => env 44 = .pointer (some ⟨K.kb, 0, none⟩) | 45 => env 45 = .pointer (some ⟨K.kb, 0, none⟩) | 46 => env 46 = .pointer (some ⟨K.tb, 0, none⟩) | 47 => env 47 = .pointer (some ⟨i5, 1, none⟩) | 48 => env 48 = .int .i64 pj | 49 => ∃ sp cp, env 49 = .tuple #[Ho.infoV o (.slice sp o.ob.cats.length cp), .bool true] /\ W.ownsRow W3.heap.size 163 2 (.slice sp o.ob.cats.length cp) o.ob.cats.length (Ho.flat o.ob.cats) /\ ∀ k, (Value.slice sp o.ob.cats.length cp).ownBlock = some k -> own k = some 49 | 39 => li.getD 9 false = true /\ env 39 = env 49 | 50 => li.getD 9 false = true /\ ∃ sp cp, env 49 = .tuple #[Ho.infoV o (.slice sp o.ob.cats.length cp), .bool true] /\ env 50 = Ho.infoV o (.slice sp o.ob.cats.length cp) | 51 => env 51 = .bool true | 12 => ∃ b, env 12 = .pointer (some ⟨b, 0, none⟩) /\ own b = some 12 /\ (if li.getD 14 false = true then li.getD 11 false = true /\ ∃ cs, env 50 = .agg cs /\ W.heap[b]? = some (.cells cs 89 (0, 0)) else W.heap[b]? = some (.cells #[.int .i64 0, .int .i64 0, .int .i64 0, .int .i64 0, .int .i64 0, .int .i64 0, .slice none 0 0] 89 (0, 0))) | 13 => env 13 = .bool true | _ => True) (by kernel_rfl) (by kernel_rfl) (by kernel_rfl) ?_ ?_ ?_ ?_
 · intro d own own' env env' li li' W W' h hown hz hB hB' hd he hm hi
   revert h hown hd hi
   try dsimp only
   split
   · intro h hown hd hi; exact hd.trans h
   · intro h hown hd hi; exact hd.trans h
   · intro h hown hd hi; exact hd.trans h
   · intro h hown hd hi; exact hd.trans h
   · intro h hown hd hi; exact hd.trans h
   · intro h hown hd hi; exact hd.trans h
   · intro h hown hd hi; exact hd.trans h
   · intro h hown hd hi; exact hd.trans h
   · intro h hown hd hi; exact hd.trans h
   · intro h hown hd hi
     obtain ⟨sp, cp, q1, q2, q3⟩ := h
     exact ⟨sp, cp, hd.trans q1, Ho.row_same q2 (fun k hk => (hown k (q3 k hk)).2), fun k hk => (hown k (q3 k hk)).1⟩
   · intro h hown hd hi
     exact ⟨hm _ h.1, by rw [hd, h.2]; exact (he 9 49 h.1 rfl).symm⟩
   · intro h hown hd hi
     obtain ⟨q0, sp, cp, q1, q2⟩ := h
     exact ⟨hm _ q0, sp, cp, (he 9 49 q0 rfl).trans q1, hd.trans q2⟩
   · intro h hown hd hi; exact hd.trans h
   · intro h hown hd hi
     obtain ⟨b, q1, q2, q3⟩ := h
     refine ⟨b, hd.trans q1, (hown b q2).1, ?_⟩
     rw [hi 14 rfl]
     split
     · rename_i hx; rw [if_pos hx] at q3; obtain ⟨q4, cs, q5, q6⟩ := q3; exact ⟨hm _ q4, cs, (he 11 50 q4 rfl).trans q5, (hown b q2).2.trans q6⟩
     · rename_i hx; rw [if_neg hx] at q3; exact (hown b q2).2.trans q3
   · intro h hown hd hi; exact hd.trans h
   · intro h hown hd hi; trivial
 · intro a' X own li hB hs hk hown i o d ho hd hdn hG
   match i, ho with
   | 0, ho =>
    cases ho
    obtain rfl : 40 = d := Option.some.inj hd
    have g0 : a'.eval (.tmp 0) = .pointer (some ⟨cb, 0, none⟩) := hk 0 (by kernel_rfl)
    generalize a'.eval = ev at g0 |-
    clear hG hk hdn
    obtain ⟨⟨y0, y1⟩, y2, y3⟩ := HQ.out X hB
    exact ⟨rfl, .inl ⟨.pointer (some ⟨cb, 0, none⟩), X, by clear hs; go_simp, Below.refl _ _, fun own' env' li' F => F.val⟩⟩
   | 1, ho =>
    cases ho
    obtain rfl : 41 = d := Option.some.inj hd
    have d40 : li.getD 0 false = true := hdn ⟨0, .data⟩ (by simp) rfl
    have g40 : a'.eval (.tmp 40) = .pointer (some ⟨cb, 0, none⟩) := hG 0 40 d40 rfl
    generalize a'.eval = ev at g40 |-
    clear hG hk hdn
    obtain ⟨⟨y0, y1⟩, y2, y3⟩ := HQ.out X hB
    exact ⟨rfl, .inl ⟨.pointer (some ⟨cb, 0, none⟩), X, by clear hs; go_simp, Below.refl _ _, fun own' env' li' F => F.val⟩⟩
   | 2, ho =>
    cases ho
    obtain rfl : 42 = d := Option.some.inj hd
    have d41 : li.getD 1 false = true := hdn ⟨1, .data⟩ (by simp) rfl
    have g41 : a'.eval (.tmp 41) = .pointer (some ⟨cb, 0, none⟩) := hG 1 41 d41 rfl
    generalize a'.eval = ev at g41 |-
    clear hG hk hdn
    obtain ⟨⟨y0, y1⟩, y2, y3⟩ := HQ.out X hB
    exact ⟨rfl, .inl ⟨.pointer (some ⟨cb, 0, none⟩), X, by clear hs; go_simp, Below.refl _ _, fun own' env' li' F => F.val⟩⟩
   | 3, ho =>
    cases ho
    obtain rfl : 43 = d := Option.some.inj hd
    have d42 : li.getD 2 false = true := hdn ⟨2, .data⟩ (by simp) rfl
    have g42 : a'.eval (.tmp 42) = .pointer (some ⟨cb, 0, none⟩) := hG 2 42 d42 rfl
    generalize a'.eval = ev at g42 |-
    clear hG hk hdn
    obtain ⟨⟨y0, y1⟩, y2, y3⟩ := HQ.out X hB
    exact ⟨rfl, .inl ⟨.pointer (some ⟨K.kb, 0, none⟩), X, by clear hs; go_simp, Below.refl _ _, fun own' env' li' F => F.val⟩⟩
   | 4, ho =>
    cases ho
    obtain rfl : 44 = d := Option.some.inj hd
    have d43 : li.getD 3 false = true := hdn ⟨3, .data⟩ (by simp) rfl
    have g43 : a'.eval (.tmp 43) = .pointer (some ⟨K.kb, 0, none⟩) := hG 3 43 d43 rfl
    generalize a'.eval = ev at g43 |-
    clear hG hk hdn
    obtain ⟨⟨y0, y1⟩, y2, y3⟩ := HQ.out X hB
    exact ⟨rfl, .inl ⟨.pointer (some ⟨K.kb, 0, none⟩), X, by clear hs; go_simp, Below.refl _ _, fun own' env' li' F => F.val⟩⟩
   | 5, ho =>
    cases ho
    obtain rfl : 45 = d := Option.some.inj hd
    have d44 : li.getD 4 false = true := hdn ⟨4, .data⟩ (by simp) rfl
    have g44 : a'.eval (.tmp 44) = .pointer (some ⟨K.kb, 0, none⟩) := hG 4 44 d44 rfl
    generalize a'.eval = ev at g44 |-
    clear hG hk hdn
    obtain ⟨⟨y0, y1⟩, y2, y3⟩ := HQ.out X hB
    exact ⟨rfl, .inl ⟨.pointer (some ⟨K.kb, 0, none⟩), X, by clear hs; go_simp, Below.refl _ _, fun own' env' li' F => F.val⟩⟩
   | 6, ho =>
    cases ho
    obtain rfl : 46 = d := Option.some.inj hd
    have d45 : li.getD 5 false = true := hdn ⟨5, .data⟩ (by simp) rfl
    have g45 : a'.eval (.tmp 45) = .pointer (some ⟨K.kb, 0, none⟩) := hG 5 45 d45 rfl
    generalize a'.eval = ev at g45 |-
    clear hG hk hdn
    obtain ⟨⟨y0, y1⟩, y2, y3⟩ := HQ.out X hB
    exact ⟨rfl, .inl ⟨.pointer (some ⟨K.tb, 0, none⟩), X, by clear hs; go_simp, Below.refl _ _, fun own' env' li' F => F.val⟩⟩
   | 7, ho =>
    cases ho
    obtain rfl : 47 = d := Option.some.inj hd
    have g5 : a'.eval (.tmp 5) = .pointer (some ⟨i5, 0, none⟩) := hk 5 (by kernel_rfl)
    generalize a'.eval = ev at g5 |-
    clear hG hk hdn
    obtain ⟨⟨y0, y1⟩, y2, y3⟩ := HQ.out X hB
    exact ⟨rfl, .inl ⟨.pointer (some ⟨i5, 1, none⟩), X, by clear hs; go_simp, Below.refl _ _, fun own' env' li' F => F.val⟩⟩
   | 8, ho =>
    cases ho
    obtain rfl : 48 = d := Option.some.inj hd
    have d47 : li.getD 7 false = true := hdn ⟨7, .data⟩ (by simp) rfl
    have g47 : a'.eval (.tmp 47) = .pointer (some ⟨i5, 1, none⟩) := hG 7 47 d47 rfl
    generalize a'.eval = ev at g47 |-
    clear hG hk hdn
    obtain ⟨⟨y0, y1⟩, y2, y3⟩ := HQ.out X hB
    exact ⟨rfl, .inl ⟨.int .i64 pj, X, by clear hs; go_simp, Below.refl _ _, fun own' env' li' F => F.val⟩⟩
   | 9, ho =>
    cases ho
    obtain rfl : 49 = d := Option.some.inj hd
    have d46 : li.getD 6 false = true := hdn ⟨6, .data⟩ (by simp) rfl
    have g46 : a'.eval (.tmp 46) = .pointer (some ⟨K.tb, 0, none⟩) := hG 6 46 d46 rfl
    have d48 : li.getD 8 false = true := hdn ⟨8, .data⟩ (by simp) rfl
    have g48 : a'.eval (.tmp 48) = .int .i64 pj := hG 8 48 d48 rfl
    refine ⟨rfl, .inr ⟨48, #[.pointer (some ⟨K.tb, 0, none⟩), .int .i64 pj], ?_, ?_⟩⟩
    · have gF : a'.eval (.func 48) = .func (.func 48) #[] #[] := rfl
      generalize a'.eval = ev at gF g46 g48 |-
      exact exec_call2 rfl gF g46 g48 (enters_of Tryz.func48 (by kernel_rfl) rfl)
    · refine (HI.out X hB).mono ?_
      rintro e X' ⟨v3, rfl, ⟨sp, cp, rfl, hrow⟩, hb⟩
      exact ⟨_, rfl, hb, fun own' env' li' F => ⟨sp, cp, F.val, Ho.row_mono hrow hB.size, fun k hk => F.own k (hrow.lt k hk).1 (hrow.lt k hk).2⟩⟩
   | 10, ho =>
    cases ho
    obtain rfl : 39 = d := Option.some.inj hd
    have d49 : li.getD 9 false = true := hdn ⟨9, .data⟩ (by simp) rfl
    have g49 : ∃ sp cp, (fun k => a'.eval (.tmp k)) 49 = .tuple #[Ho.infoV o (.slice sp o.ob.cats.length cp), .bool true] /\ X.ownsRow W3.heap.size 163 2 (.slice sp o.ob.cats.length cp) o.ob.cats.length (Ho.flat o.ob.cats) /\ ∀ k, (Value.slice sp o.ob.cats.length cp).ownBlock = some k -> own k = some 49 := hG 9 49 d49 rfl
    obtain ⟨v, hv⟩ : ∃ v, a'.eval (.tmp 49) = v := ⟨_, rfl⟩
    refine ⟨rfl, .inl ⟨v, X, ?_, Below.refl _ _, fun own' env' li' F => ⟨F.done _ d49, by rw [F.val, F.env 49 (by decide)]; exact hv.symm⟩⟩⟩
    generalize a'.eval = ev at hv |-
    clear hG hk hdn hs g49
    go_simp
   | 11, ho =>
    cases ho
    obtain rfl : 50 = d := Option.some.inj hd
    have d39 : li.getD 10 false = true := hdn ⟨10, .data⟩ (by simp) rfl
    have g39 : li.getD 9 false = true /\ (fun k => a'.eval (.tmp k)) 39 = (fun k => a'.eval (.tmp k)) 49 := hG 10 39 d39 rfl
    obtain ⟨sp, cp, q1, -, -⟩ : ∃ sp cp, a'.eval (.tmp 49) = .tuple #[Ho.infoV o (.slice sp o.ob.cats.length cp), .bool true] /\ X.ownsRow W3.heap.size 163 2 (.slice sp o.ob.cats.length cp) o.ob.cats.length (Ho.flat o.ob.cats) /\ ∀ k, (Value.slice sp o.ob.cats.length cp).ownBlock = some k -> own k = some 49 := hG 9 49 g39.1 rfl
    have q2 : a'.eval (.tmp 39) = _ := g39.2.trans q1
    refine ⟨rfl, .inl ⟨Ho.infoV o (.slice sp o.ob.cats.length cp), X, ?_, Below.refl _ _, fun own' env' li' F => ⟨F.done _ g39.1, sp, cp, by rw [F.env 49 (by decide)]; exact q1, F.val⟩⟩⟩
    generalize a'.eval = ev at q2 |-
    clear hG hk hdn hs g39 q1
    go_simp
   | 12, ho =>
    cases ho
    obtain rfl : 51 = d := Option.some.inj hd
    have d39 : li.getD 10 false = true := hdn ⟨10, .data⟩ (by simp) rfl
    have g39 : li.getD 9 false = true /\ (fun k => a'.eval (.tmp k)) 39 = (fun k => a'.eval (.tmp k)) 49 := hG 10 39 d39 rfl
    obtain ⟨sp, cp, q1, -, -⟩ : ∃ sp cp, a'.eval (.tmp 49) = .tuple #[Ho.infoV o (.slice sp o.ob.cats.length cp), .bool true] /\ X.ownsRow W3.heap.size 163 2 (.slice sp o.ob.cats.length cp) o.ob.cats.length (Ho.flat o.ob.cats) /\ ∀ k, (Value.slice sp o.ob.cats.length cp).ownBlock = some k -> own k = some 49 := hG 9 49 g39.1 rfl
    have q2 : a'.eval (.tmp 39) = _ := g39.2.trans q1
    refine ⟨rfl, .inl ⟨.bool true, X, ?_, Below.refl _ _, fun own' env' li' F => F.val⟩⟩
    generalize a'.eval = ev at q2 |-
    clear hG hk hdn hs g39 q1
    go_simp
   | 13, ho =>
    cases ho
    obtain rfl : 12 = d := Option.some.inj hd
    refine ⟨rfl, .inl ⟨.pointer (some ⟨X.heap.size, 0, none⟩), X.alloc (.cells #[.int .i64 0, .int .i64 0, .int .i64 0, .int .i64 0, .int .i64 0, .int .i64 0, .slice none 0 0] 89), by clear hs hG hk hdn; go_simp, (Below.refl _ _).alloc (Nat.le_refl _) _, fun own' env' li' F => ⟨X.heap.size, F.val, F.own _ (Nat.le_refl _) (by simp), by rw [if_neg (by rw [F.ins 14 rfl]; decide)]; exact heap_alloc_new _ _⟩⟩⟩
   | 14, ho =>
    cases ho
    exact absurd hd (by simp)
   | 15, ho =>
    cases ho
    obtain rfl : 13 = d := Option.some.inj hd
    have d51 : li.getD 12 false = true := hdn ⟨12, .data⟩ (by simp) rfl
    have g51 : a'.eval (.tmp 51) = .bool true := hG 12 51 d51 rfl
    generalize a'.eval = ev at g51 |-
    clear hG hk hdn
    obtain ⟨⟨y0, y1⟩, y2, y3⟩ := HQ.out X hB
    exact ⟨rfl, .inl ⟨.bool true, X, by clear hs; go_simp, Below.refl _ _, fun own' env' li' F => F.val⟩⟩
   | j + 16, ho => simp at ho
 · intro a' X own li hB hk hown i o m ho ht' hli hdn hG
   match i, ho with
   | 0, ho =>
    exact absurd ht' (by simp)
   | 1, ho =>
    exact absurd ht' (by simp)
   | 2, ho =>
    exact absurd ht' (by simp)
   | 3, ho =>
    exact absurd ht' (by simp)
   | 4, ho =>
    exact absurd ht' (by simp)
   | 5, ho =>
    exact absurd ht' (by simp)
   | 6, ho =>
    exact absurd ht' (by simp)
   | 7, ho =>
    exact absurd ht' (by simp)
   | 8, ho =>
    exact absurd ht' (by simp)
   | 9, ho =>
    exact absurd ht' (by simp)
   | 10, ho =>
    exact absurd ht' (by simp)
   | 11, ho =>
    exact absurd ht' (by simp)
   | 12, ho =>
    exact absurd ht' (by simp)
   | 13, ho =>
    exact absurd ht' (by simp)
   | 14, ho =>
    cases ho
    obtain rfl : 12 = m := Option.some.inj ht'
    have d12 : li.getD 13 false = true := hdn ⟨13, .data⟩ (by simp) rfl
    have g12 : ∃ b, (fun k => a'.eval (.tmp k)) 12 = .pointer (some ⟨b, 0, none⟩) /\ own b = some 12 /\ (if li.getD 14 false = true then li.getD 11 false = true /\ ∃ cs, (fun k => a'.eval (.tmp k)) 50 = .agg cs /\ X.heap[b]? = some (.cells cs 89 (0, 0)) else X.heap[b]? = some (.cells #[.int .i64 0, .int .i64 0, .int .i64 0, .int .i64 0, .int .i64 0, .int .i64 0, .slice none 0 0] 89 (0, 0))) := hG 13 12 d12 rfl
    have d50 : li.getD 11 false = true := hdn ⟨11, .data⟩ (by simp) rfl
    have g50 : li.getD 9 false = true /\ ∃ sp cp, (fun k => a'.eval (.tmp k)) 49 = .tuple #[Ho.infoV o (.slice sp o.ob.cats.length cp), .bool true] /\ (fun k => a'.eval (.tmp k)) 50 = Ho.infoV o (.slice sp o.ob.cats.length cp) := hG 11 50 d50 rfl
    obtain ⟨b, q1, q2, q3⟩ := g12
    rw [if_neg (by rw [hli]; decide)] at q3
    obtain ⟨q4, sp, cp, q5, q6⟩ := g50
    simp only at q1 q5 q6
    unfold Ho.infoV at q6
    obtain ⟨-, ⟨f0, f1, f2, f3, f4, f5, f6⟩⟩ := info7 q3
    obtain ⟨⟨z0, z1, z2, z3, z4, z5, z6⟩, -⟩ := info7 q3
    have hbo : W3.heap.size <= b := (hown b (by rw [q2]; simp)).1
    refine ⟨rfl, X.setCells b 0 [.int .i64 o.ob.id, .int .i64 o.ob.kind, .int .i64 o.ob.quota, .int .i64 o.ob.used, .int .i64 o.ob.links, .int .i64 o.ob.df, .slice sp o.ob.cats.length cp], ?_, ?_, Go.below_setCells hbo _ 0 X hB, fun j hj hne => World.heap_setCells_other X b 0 _ hj (fun e => hne (by rw [e]; exact q2)), fun li' hl1 hl2 hl3 => ?_⟩
    · generalize a'.eval = ev at q1 q6 |-
      clear hG hk hdn q3 q5
      go_simp
      rfl
    · exact Nat.le_of_eq (by rw [setCells_size])
    · exact ⟨b, q1, q2, by rw [if_pos hl2]; exact ⟨hl1 _ d50, _, q6, heap_set7 q3⟩⟩
   | 15, ho =>
    exact absurd ht' (by simp)
   | j + 16, ho => simp at ho
 · intro a' X own li hB hs hdf hk hown hall hG
   obtain ⟨tm, df⟩ := a'
   obtain rfl : df = [] := hdf
   have htm := arr3 [.pointer (some ⟨cb, 0, none⟩), .agg #[.int .i64 pi, .int .i64 pj], .int .i64 kd, .func (.func 129) #[wv] #[], undef, .pointer (some ⟨i5, 0, none⟩), undef, undef, .pointer (some ⟨i8, 0, none⟩), .int .i64 0, .pointer (some ⟨W1.heap.size, 0, none⟩), .int .i64 0, tm.getD 12 undef, tm.getD 13 undef, .tuple #[.agg #[.int .i64 r.ob.id, .int .i64 1, .int .i64 r.ob.quota, .int .i64 r.ob.used, .int .i64 r.ob.links, .int .i64 r.ob.df, .slice p1 r.ob.cats.length cp1], .int .i64 0], .pointer (some ⟨cb, 0, none⟩), .pointer (some ⟨i5, 0, none⟩), .int .i64 pi, .tuple #[.agg #[.int .i64 r.ob.id, .int .i64 1, .int .i64 r.ob.quota, .int .i64 r.ob.used, .int .i64 r.ob.links, .int .i64 r.ob.df, .slice p1 r.ob.cats.length cp1], .int .i64 0], .agg #[.int .i64 r.ob.id, .int .i64 1, .int .i64 r.ob.quota, .int .i64 r.ob.used, .int .i64 r.ob.links, .int .i64 r.ob.df, .slice p1 r.ob.cats.length cp1], .int .i64 0, .int .i64 0, .bool false, .bool false, .pointer (some ⟨cb, 0, none⟩), .pointer (some ⟨cb, 0, none⟩), .pointer (some ⟨cb, 0, none⟩), .pointer (some ⟨K.kb, 0, none⟩), .pointer (some ⟨K.kb, 0, none⟩), .pointer (some ⟨K.kb, 0, none⟩), .pointer (some ⟨K.tb, 0, none⟩), .pointer (some ⟨i5, 0, none⟩), .int .i64 pi, .pointer (some ⟨i5, 1, none⟩), .int .i64 pj, .bool true, .bool false, .bool false, undef, tm.getD 39 undef, tm.getD 40 undef, tm.getD 41 undef, tm.getD 42 undef, tm.getD 43 undef, tm.getD 44 undef, tm.getD 45 undef, tm.getD 46 undef, tm.getD 47 undef, tm.getD 48 undef, tm.getD 49 undef, tm.getD 50 undef, tm.getD 51 undef, undef, undef, undef, undef, undef, undef, undef, undef, undef, undef, undef, undef, undef, undef, undef, undef, undef, undef] hs (ae 1 (by exact hk 0 rfl) (ae 2 (by exact hk 1 rfl) (ae 3 (by exact hk 2 rfl) (ae 4 (by exact hk 3 rfl) (ae 5 (by exact hk 4 rfl) (ae 6 (by exact hk 5 rfl) (ae 7 (by exact hk 6 rfl) (ae 8 (by exact hk 7 rfl) (ae 9 (by exact hk 8 rfl) (ae 10 (by exact hk 9 rfl) (ae 11 (by exact hk 10 rfl) (ae 12 (by exact hk 11 rfl) (ae 13 rfl (ae 14 rfl (ae 15 (by exact hk 14 rfl) (ae 16 (by exact hk 15 rfl) (ae 17 (by exact hk 16 rfl) (ae 18 (by exact hk 17 rfl) (ae 19 (by exact hk 18 rfl) (ae 20 (by exact hk 19 rfl) (ae 21 (by exact hk 20 rfl) (ae 22 (by exact hk 21 rfl) (ae 23 (by exact hk 22 rfl) (ae 24 (by exact hk 23 rfl) (ae 25 (by exact hk 24 rfl) (ae 26 (by exact hk 25 rfl) (ae 27 (by exact hk 26 rfl) (ae 28 (by exact hk 27 rfl) (ae 29 (by exact hk 28 rfl) (ae 30 (by exact hk 29 rfl) (ae 31 (by exact hk 30 rfl) (ae 32 (by exact hk 31 rfl) (ae 33 (by exact hk 32 rfl) (ae 34 (by exact hk 33 rfl) (ae 35 (by exact hk 34 rfl) (ae 36 (by exact hk 35 rfl) (ae 37 (by exact hk 36 rfl) (ae 38 (by exact hk 37 rfl) (ae 39 (by exact hk 38 rfl) (ae 40 rfl (ae 41 rfl (ae 42 rfl (ae 43 rfl (ae 44 rfl (ae 45 rfl (ae 46 rfl (ae 47 rfl (ae 48 rfl (ae 49 rfl (ae 50 rfl (ae 51 rfl (ae 52 rfl (ae 53 (by exact hk 52 rfl) (ae 54 (by exact hk 53 rfl) (ae 55 (by exact hk 54 rfl) (ae 56 (by exact hk 55 rfl) (ae 57 (by exact hk 56 rfl) (ae 58 (by exact hk 57 rfl) (ae 59 (by exact hk 58 rfl) (ae 60 (by exact hk 59 rfl) (ae 61 (by exact hk 60 rfl) (ae 62 (by exact hk 61 rfl) (ae 63 (by exact hk 62 rfl) (ae 64 (by exact hk 63 rfl) (ae 65 (by exact hk 64 rfl) (ae 66 (by exact hk 65 rfl) (ae 67 (by exact hk 66 rfl) (ae 68 (by exact hk 67 rfl) (ae 69 (by exact hk 68 rfl) (ae 70 (by exact hk 69 rfl) az))))))))))))))))))))))))))))))))))))))))))))))))))))))))))))))))))))))
   clear hs hk
   have g40 : tm.getD 40 undef = .pointer (some ⟨cb, 0, none⟩) := hG 0 40 (by decide) rfl
   have g41 : tm.getD 41 undef = .pointer (some ⟨cb, 0, none⟩) := hG 1 41 (by decide) rfl
   have g42 : tm.getD 42 undef = .pointer (some ⟨cb, 0, none⟩) := hG 2 42 (by decide) rfl
   have g43 : tm.getD 43 undef = .pointer (some ⟨K.kb, 0, none⟩) := hG 3 43 (by decide) rfl
   have g44 : tm.getD 44 undef = .pointer (some ⟨K.kb, 0, none⟩) := hG 4 44 (by decide) rfl
   have g45 : tm.getD 45 undef = .pointer (some ⟨K.kb, 0, none⟩) := hG 5 45 (by decide) rfl
   have g46 : tm.getD 46 undef = .pointer (some ⟨K.tb, 0, none⟩) := hG 6 46 (by decide) rfl
   have g47 : tm.getD 47 undef = .pointer (some ⟨i5, 1, none⟩) := hG 7 47 (by decide) rfl
   have g48 : tm.getD 48 undef = .int .i64 pj := hG 8 48 (by decide) rfl
   have g49 : ∃ sp cp, (fun k => tm.getD k undef) 49 = .tuple #[Ho.infoV o (.slice sp o.ob.cats.length cp), .bool true] /\ X.ownsRow W3.heap.size 163 2 (.slice sp o.ob.cats.length cp) o.ob.cats.length (Ho.flat o.ob.cats) /\ ∀ k, (Value.slice sp o.ob.cats.length cp).ownBlock = some k -> own k = some 49 := hG 9 49 (by decide) rfl
   have g39 : li.getD 9 false = true /\ (fun k => tm.getD k undef) 39 = (fun k => tm.getD k undef) 49 := hG 10 39 (by decide) rfl
   have g50 : li.getD 9 false = true /\ ∃ sp cp, (fun k => tm.getD k undef) 49 = .tuple #[Ho.infoV o (.slice sp o.ob.cats.length cp), .bool true] /\ (fun k => tm.getD k undef) 50 = Ho.infoV o (.slice sp o.ob.cats.length cp) := hG 11 50 (by decide) rfl
   have g51 : tm.getD 51 undef = .bool true := hG 12 51 (by decide) rfl
   have g12 : ∃ b, (fun k => tm.getD k undef) 12 = .pointer (some ⟨b, 0, none⟩) /\ own b = some 12 /\ (if li.getD 14 false = true then li.getD 11 false = true /\ ∃ cs, (fun k => tm.getD k undef) 50 = .agg cs /\ X.heap[b]? = some (.cells cs 89 (0, 0)) else X.heap[b]? = some (.cells #[.int .i64 0, .int .i64 0, .int .i64 0, .int .i64 0, .int .i64 0, .int .i64 0, .slice none 0 0] 89 (0, 0))) := hG 13 12 (by decide) rfl
   have g13 : tm.getD 13 undef = .bool true := hG 15 13 (by decide) rfl
   clear hG
   obtain ⟨sp, cp, q1, q2, q3⟩ := g49
   obtain ⟨b, r1, r2, r3⟩ := g12
   rw [if_pos (hall 14 (by decide))] at r3
   obtain ⟨-, cs, r4, r5⟩ := r3
   obtain ⟨-, sp', cp', r6, r7⟩ := g50
   simp only at q1 r1 r4 r6 r7
   have hss : (.slice sp' o.ob.cats.length cp' : Value) = .slice sp o.ob.cats.length cp := by rw [q1] at r6; unfold Ho.infoV at r6; simp at r6; simp [r6]
   rw [hss] at r7
   rw [r7] at r4
   unfold Ho.infoV at r4
   injection r4 with r4
   rw [<- r4] at r5
   rw [r1, g13] at htm
   clear r4 r6 r7 hss g39 q1 r1 g40 g41 g42 g43 g44 g45 g46 g47 g48 g51 g13 hall
   generalize tm.getD 40 undef = t40 at htm
   generalize tm.getD 41 undef = t41 at htm
   generalize tm.getD 42 undef = t42 at htm
   generalize tm.getD 43 undef = t43 at htm
   generalize tm.getD 44 undef = t44 at htm
   generalize tm.getD 45 undef = t45 at htm
   generalize tm.getD 46 undef = t46 at htm
   generalize tm.getD 47 undef = t47 at htm
   generalize tm.getD 48 undef = t48 at htm
   generalize tm.getD 49 undef = t49 at htm
   generalize tm.getD 39 undef = t39 at htm
   generalize tm.getD 50 undef = t50 at htm
   generalize tm.getD 51 undef = t51 at htm
   subst htm
   have hkd := Hkd.out
   rw [hkd] at r5
   obtain ⟨⟨x0, x1, x2, x3, x4, x5, x6⟩, -⟩ := info7 r5
   have hb0 : (kd != 0) = true := by simpa using hkd0
   have hlo := lv_of (d := o.ob.df) q2 hl2
   have HRow := Lib.hid q2
   have HB4 := Lib.hid (HB3.out.trans (hB.mono HB3.out.size))
   have HMX := Lib.hid (HM.out X _ HB4.out hlo)
   have Hi8Y := Lib.hid ((hB.block i8 hz3).trans Hi8X.out)
   have hbi : W3.heap.size <= b := (hown b (by rw [r2]; simp)).1
   have Hbi := Lib.hid hbi
   have Hr5 := Lib.hid r5
   have hz4 : i8 < X.heap.size := Nat.lt_of_lt_of_le hz3 hB.size
   have hbX : b < X.heap.size := (hown b (by rw [r2]; simp)).2
   have HbX := Lib.hid hbX
   clear hB hown r5 hkd hlo q2 q3 r2 hbi HI HQ p0' p1' c0' k0' hbX
   go_wp2_with (go_at_call 129; refine HMX.out.mono ?_; rintro e W5 ⟨rfl, hb5⟩; refine Hid.out ?_)
   refine Lib.hid ?_
   have hI6 : W5.heap[b]? = _ := (hb5.block b HbX.out).trans Hr5.out
   have hI4 : W5.heap[i8]? = _ := (hb5.block i8 hz4).trans Hi8Y.out
   have hne : i8 ≠ b := by have := Hbi.out; omega
   have HB5 := Lib.hid (HB4.out.trans (hb5.mono HB4.out.size))
   obtain ⟨⟨z0, z1, z2, z3, z4, z5, z6⟩, -⟩ := info7 hI6
   obtain ⟨⟨y0, y1, y2, y3, y4, y5, y6⟩, ⟨f0, f1, f2, f3, f4, f5, f6⟩⟩ := info7 hI4
   have HI4 := Lib.hid hI4
   clear hI6 hI4 x0 x1 x2 x3 x4 x5 x6 hb5 hz4
   go_wp2
   have hr7 := set7 (v0 := .int .i64 o.ob.id) (v1 := .int .i64 kd) (v2 := .int .i64 o.ob.quota) (v3 := .int .i64 o.ob.used) (v4 := .int .i64 o.ob.links) (v5 := .int .i64 o.ob.df) (v6 := .slice sp o.ob.cats.length cp) HI4.out
   have hbe := Go.below_setCells (show W.heap.size <= i8 by have := Hi5e.out; have := Hi8e.out; omega) [.int .i64 o.ob.id, .int .i64 kd, .int .i64 o.ob.quota, .int .i64 o.ob.used, .int .i64 o.ob.links, .int .i64 o.ob.df, .slice sp o.ob.cats.length cp] 0 W5 HB5.out
   refine bodyPost_ret (v := .tuple #[.agg #[.int .i64 o.ob.id, .int .i64 kd, .int .i64 o.ob.quota, .int .i64 o.ob.used, .int .i64 o.ob.links, .int .i64 o.ob.df, .slice sp o.ob.cats.length cp], .int .i64 0]) ?_ rfl ⟨sp, cp, by unfold Ho.infoV; rw [Hkd.out], hbe⟩
   exact results_cell_tmp Tryz.results128 _ _ i8 _ _ rfl hr7 Tryz.underlying89 rfl infoI
end Go.Proofs.YtmgfakfiiaeofaaGreat
