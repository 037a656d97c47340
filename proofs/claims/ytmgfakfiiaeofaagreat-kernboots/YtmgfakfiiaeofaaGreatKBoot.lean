/- Which three numbers a kernel can begin with. -/
import Derived.Test.YtmgfakfiiaeofaaGreatSq
import Derived.Test.YtmgfakfiiaeofaaGreatHoAppI
import Derived.Test.YtmgfakfiiaeofaaGreatHoRefS2
import Derived.Test.YtmgfakfiiaeofaaGreatPaAtM
import Derived.Test.YtmgfakfiiaeofaaGreatKoPhase6
import Derived.Test.YtmgfakfiiaeofaaGreatKNewP
import Derived.Test.YtmgfakfiiaeofaaGreatHoLabR
/- Both tell the same of all objects, at first. -/
namespace Go.Proofs.YtmgfakfiiaeofaaGreat
open Go.RowKit Go.Sort
theorem cl_len {o : Vw.Ob} (h : o.st.length = 17) : o.cl.length = 38 := by
 have := Vw.Ob.size h
 unfold Vw.Ob.cs at this
 simpa using this
def PIds (l : List Int) (v : Value) (X : World) : Prop := ∃ p c, v = .slice p l.length c /\ Ho.IntsAt X p l
theorem PIds.below {l : List Int} {v : Value} {X Y : World} (h : PIds l v X) (hb : Below X.heap.size X Y) : PIds l v Y := by
 obtain ⟨p, c, h1, h2⟩ := h
 exact ⟨p, c, h1, h2.below hb⟩
theorem A2_some {r c t x : Int} (h1 : r ≠ c) (h2 : r ≠ t) (h3 : c ≠ t) : (Ho.A2 r c t x).isSome = true ↔ x = r ∨ x = c ∨ x = t := by
 constructor
 · intro h
   by_cases e1 : x = r
   · exact .inl e1
   · by_cases e2 : x = c
     · exact .inr (.inl e2)
     · by_cases e3 : x = t
       · exact .inr (.inr e3)
       · rw [Ho.A2_no e1 e2 e3] at h; cases h
 · rintro (rfl | rfl | rfl)
   · rw [Ho.A2_r h2]; rfl
   · rw [Ho.A2_c h1 h3]; rfl
   · rw [Ho.A2_t]; rfl
set_option maxRecDepth 100000 in
set_option maxHeartbeats 8000000 in
theorem told_any {lo : Nat} {W : World} {K : Kn} {r c t : Int} {kb rb rm dr al : Nat} (h : Bth lo W K r c t kb rb rm dr al) (hg : Good3 r c t) :
 Calls Tryz.prog 7 #[.pointer (some ⟨K.kb, 0, none⟩), .pointer (some ⟨kb, 0, none⟩)] W fun e W' => e = .returned (.bool true) /\ Below W.heap.size W W' := by
 have hsz : Maps.size K.D < 1000000 := by rw [h.hF.sz]; decide
 have HI := Lib.hid (Ids_any h.hK hsz)
 have HG := Lib.hid hg
 have HB := Lib.hid h
 clear h hg hsz
 go_enter Tryz.func7, Tryz.ntmps7
 go_wp2_with (go_at_call 21; refine HI.out.mono ?_; rintro e W1 ⟨p, cc, l, rfl, hI1, -, hs1, hm1, hl1, hb1⟩; refine Hid.out ?_)
 refine Lib.hid ?_
 have hB1 := HB.out.below hb1
 have hml : ∀ x, x ∈ l ↔ x = r ∨ x = c ∨ x = t := fun x => by
  rw [hm1 x]
  obtain ⟨r1, t1, -⟩ := HB.out.hF.tR
  obtain ⟨r2, t2, -⟩ := HB.out.hF.tC
  obtain ⟨r3, t3, -⟩ := HB.out.hF.tT
  constructor
  · intro hx
    by_cases e1 : x = r
    · exact .inl e1
    · by_cases e2 : x = c
      · exact .inr (.inl e2)
      · by_cases e3 : x = t
        · exact .inr (.inr e3)
        · rw [HB.out.hF.tN x e1 e2 e3] at hx; cases hx
  · rintro (rfl | rfl | rfl)
    · rw [t1]; rfl
    · rw [t2]; rfl
    · rw [t3]; rfl
 have HIds : Hid (∀ X, Below W1.heap.size W1 X -> Calls Tryz.prog 23 #[.pointer (some ⟨rb, 0, none⟩)] X fun e W' => ∃ v, e = .returned v /\ Below X.heap.size X W' /\ PIds l v W') := Lib.hid (fun X hX => by
  obtain ⟨g, cap, cs, L, hRS, hRel, -, -⟩ := (hB1.below hX).hR.tab
  refine (Ho.rIds_any hRS).mono fun e W' ⟨p2, c2, l2, he, h1, h2, h3⟩ => ?_
  have hl : l2 = l := Ho.sorted_eq h3.1 hs1 (fun x => by
   rw [h3.2 x, hml x, <- A2_some HG.out.2.2.2.1 HG.out.2.2.2.2.1 HG.out.2.2.2.2.2]
   constructor
   · intro hx
     obtain ⟨th, hth, rfl⟩ := List.mem_map.1 hx
     obtain ⟨o, ho, -⟩ := hRel.yes th hth (by simp)
     rw [ho]; rfl
   · intro hx
     obtain ⟨o, ho⟩ := Option.isSome_iff_exists.1 hx
     obtain ⟨th, hth, e2⟩ := hRel.back x o ho
     exact List.mem_map.2 ⟨th, hth, e2⟩)
  subst hl
  exact ⟨_, he, h2, p2, c2, rfl, h1⟩)
 have HSame : Hid (∀ (X : World) (q : Option Addr) (c3 c4 : Nat), Below W1.heap.size W1 X -> Ho.IntsAt X q l -> Calls Tryz.prog 22 #[.slice p l.length c3, .slice q l.length c4] X fun e W' => e = .returned (.bool true) /\ Below X.heap.size X W') := Lib.hid (fun X q c3 c4 hX hq => by
  have h5 := Ho.SameInts_any X p q c3 c4 l l (Ho.IntsAt.below hI1 hX) hq hl1
  simp only [beq_self_eq_true] at h5
  exact h5)
 have HTk : Hid (∀ X, Below W1.heap.size W1 X -> Calls Tryz.prog 24 #[.pointer (some ⟨K.kb, 0, none⟩)] X fun e W' => e = .returned (.int .i64 0) /\ W' = X) := Lib.hid (fun X hX => by
  have h5 := Ticks_any (hB1.below hX).hK
  rw [HB.out.hF.ticks] at h5
  exact h5)
 have HCl : Hid (∀ X, Below W1.heap.size W1 X -> X.cell? ⟨kb, 0, none⟩ = some (.pointer (some ⟨rb, 0, none⟩)) /\ X.cell? ⟨kb, 4, none⟩ = some (.int .i64 0)) := Lib.hid (fun X hX => by
  have := (hB1.below hX).hR.ker
  exact ⟨by simp [World.cell?, this], by simp [World.cell?, this]⟩)
 have HB1 := Lib.hid hB1
 have Hb1 := Lib.hid hb1
 have HI1 := Lib.hid hI1
 have Hml := Lib.hid hml
 have Hl1 := Lib.hid hl1
 clear hB1 hb1 hI1 hml hl1 hs1 hm1 HI HB
 go_upto_region 2 with fail
 refine Ko.wp_region_monoT 17 17 (fun kq uq Xq => match kq with | 14 => uq = .slice p l.length cc | 15 => uq = .pointer (some ⟨kb, 0, none⟩) | 16 => uq = .pointer (some ⟨kb, 0, none⟩) | 17 => uq = .pointer (some ⟨kb, 0, none⟩) | 18 => uq = .pointer (some ⟨rb, 0, none⟩) | 19 => PIds l (uq) Xq | 20 => uq = .bool true | 21 => uq = .bool false | 22 => uq = .bool false | 23 => uq = .pointer (some ⟨K.kb, 0, none⟩) | 24 => uq = .int .i64 0 | 25 => uq = .pointer (some ⟨kb, 0, none⟩) | 26 => uq = .pointer (some ⟨kb, 0, none⟩) | 27 => uq = .pointer (some ⟨kb, 4, none⟩) | 28 => uq = .int .i64 0 | 29 => uq = .bool false | 30 => uq = .bool false | _ => True) (by kernel_rfl) (by kernel_rfl) (by kernel_rfl) (by kernel_rfl) (by simp) (by kernel_rfl) ?_ ?_ ?_
 · intro kq v W W' h hb
   revert h
   try dsimp only
   split
   · intro h; exact h
   · intro h; exact h
   · intro h; exact h
   · intro h; exact h
   · intro h; exact h
   · intro h; exact h.below hb
   · intro h; exact h
   · intro h; exact h
   · intro h; exact h
   · intro h; exact h
   · intro h; exact h
   · intro h; exact h
   · intro h; exact h
   · intro h; exact h
   · intro h; exact h
   · intro h; exact h
   · intro h; exact h
   · intro h; trivial
 · intro a' X hB hs hk i o d ho hd hG
   match i, ho with
   | 0, ho =>
    cases ho
    obtain rfl : 14 = d := Option.some.inj hd
    have g5 : a'.eval (.tmp 5) = .slice p l.length cc := hk 5 (by kernel_rfl)
    generalize a'.eval = ev at g5 |-
    clear hG hk
    obtain ⟨q0, q1⟩ := HCl.out X hB
    exact .inr ⟨rfl, .inl ⟨.slice p l.length cc, X, by clear hs; go_simp, Below.refl _ _, rfl⟩⟩
   | 1, ho =>
    cases ho
    obtain rfl : 15 = d := Option.some.inj hd
    have g1 : a'.eval (.tmp 1) = .pointer (some ⟨kb, 0, none⟩) := hk 1 (by kernel_rfl)
    generalize a'.eval = ev at g1 |-
    clear hG hk
    obtain ⟨q0, q1⟩ := HCl.out X hB
    exact .inr ⟨rfl, .inl ⟨.pointer (some ⟨kb, 0, none⟩), X, by clear hs; go_simp, Below.refl _ _, rfl⟩⟩
   | 2, ho =>
    cases ho
    obtain rfl : 16 = d := Option.some.inj hd
    have g15 : a'.eval (.tmp 15) = .pointer (some ⟨kb, 0, none⟩) := hG ⟨1, .data⟩ (by simp) rfl 15 rfl
    generalize a'.eval = ev at g15 |-
    clear hG hk
    obtain ⟨q0, q1⟩ := HCl.out X hB
    exact .inr ⟨rfl, .inl ⟨.pointer (some ⟨kb, 0, none⟩), X, by clear hs; go_simp, Below.refl _ _, rfl⟩⟩
   | 3, ho =>
    cases ho
    obtain rfl : 17 = d := Option.some.inj hd
    have g16 : a'.eval (.tmp 16) = .pointer (some ⟨kb, 0, none⟩) := hG ⟨2, .data⟩ (by simp) rfl 16 rfl
    generalize a'.eval = ev at g16 |-
    clear hG hk
    obtain ⟨q0, q1⟩ := HCl.out X hB
    exact .inr ⟨rfl, .inl ⟨.pointer (some ⟨kb, 0, none⟩), X, by clear hs; go_simp, Below.refl _ _, rfl⟩⟩
   | 4, ho =>
    cases ho
    obtain rfl : 18 = d := Option.some.inj hd
    have g17 : a'.eval (.tmp 17) = .pointer (some ⟨kb, 0, none⟩) := hG ⟨3, .data⟩ (by simp) rfl 17 rfl
    generalize a'.eval = ev at g17 |-
    clear hG hk
    obtain ⟨q0, q1⟩ := HCl.out X hB
    exact .inr ⟨rfl, .inl ⟨.pointer (some ⟨rb, 0, none⟩), X, by clear hs; go_simp, Below.refl _ _, rfl⟩⟩
   | 5, ho =>
    cases ho
    obtain rfl : 19 = d := Option.some.inj hd
    have g18 : a'.eval (.tmp 18) = .pointer (some ⟨rb, 0, none⟩) := hG ⟨4, .data⟩ (by simp) rfl 18 rfl
    refine .inr ⟨rfl, .inr ⟨23, #[.pointer (some ⟨rb, 0, none⟩)], ?_, ?_⟩⟩
    · have gF : a'.eval (.func 23) = .func (.func 23) #[] #[] := rfl
      generalize a'.eval = ev at gF g18 |-
      exact exec_call1 rfl gF g18 (enters_of Tryz.func23 (by kernel_rfl) rfl)
    · exact HIds.out X hB
   | 6, ho =>
    cases ho
    obtain rfl : 20 = d := Option.some.inj hd
    have g14 : a'.eval (.tmp 14) = .slice p l.length cc := hG ⟨0, .data⟩ (by simp) rfl 14 rfl
    have g19 : PIds l (a'.eval (.tmp 19)) X := hG ⟨5, .data⟩ (by simp) rfl 19 rfl
    obtain ⟨p2, c2, e19, hI2⟩ := g19
    refine .inr ⟨rfl, .inr ⟨22, #[.slice p l.length cc, .slice p2 l.length c2], ?_, ?_⟩⟩
    · have gF : a'.eval (.func 22) = .func (.func 22) #[] #[] := rfl
      generalize a'.eval = ev at gF g14 e19 |-
      exact exec_call2 rfl gF g14 e19 (enters_of Tryz.func22 (by kernel_rfl) rfl)
    · exact (HSame.out X p2 cc c2 hB hI2).mono fun e W' ⟨he, hb⟩ => ⟨_, he, hb, rfl⟩
   | 7, ho =>
    cases ho
    obtain rfl : 21 = d := Option.some.inj hd
    have g20 : a'.eval (.tmp 20) = .bool true := hG ⟨6, .data⟩ (by simp) rfl 20 rfl
    generalize a'.eval = ev at g20 |-
    clear hG hk
    obtain ⟨q0, q1⟩ := HCl.out X hB
    exact .inr ⟨rfl, .inl ⟨.bool false, X, by clear hs; go_simp, Below.refl _ _, rfl⟩⟩
   | 8, ho =>
    cases ho
    obtain rfl : 22 = d := Option.some.inj hd
    have g21 : a'.eval (.tmp 21) = .bool false := hG ⟨7, .data⟩ (by simp) rfl 21 rfl
    generalize a'.eval = ev at g21 |-
    clear hG hk
    obtain ⟨q0, q1⟩ := HCl.out X hB
    exact .inr ⟨rfl, .inl ⟨.bool false, X, by clear hs; go_simp, Below.refl _ _, rfl⟩⟩
   | 9, ho =>
    cases ho
    obtain rfl : 23 = d := Option.some.inj hd
    have g0 : a'.eval (.tmp 0) = .pointer (some ⟨K.kb, 0, none⟩) := hk 0 (by kernel_rfl)
    have gg : a'.eval (.tmp 22) = .bool false := hG ⟨8, .guard⟩ (by simp) rfl 22 rfl
    refine .inr ⟨Pa.want_yes (n := 62) (d := 22) rfl hs (by decide) rfl gg, .inl ⟨.pointer (some ⟨K.kb, 0, none⟩), X, ?_, Below.refl _ _, rfl⟩⟩
    generalize a'.eval = ev at g0 |-
    clear hG hk hs gg
    obtain ⟨q0, q1⟩ := HCl.out X hB
    go_simp
   | 10, ho =>
    cases ho
    obtain rfl : 24 = d := Option.some.inj hd
    have g23 : a'.eval (.tmp 23) = .pointer (some ⟨K.kb, 0, none⟩) := hG ⟨9, .data⟩ (by simp) rfl 23 rfl
    have gg : a'.eval (.tmp 22) = .bool false := hG ⟨8, .guard⟩ (by simp) rfl 22 rfl
    refine .inr ⟨Pa.want_yes (n := 62) (d := 22) rfl hs (by decide) rfl gg, .inr ⟨24, #[.pointer (some ⟨K.kb, 0, none⟩)], ?_, ?_⟩⟩
    · have gF : a'.eval (.func 24) = .func (.func 24) #[] #[] := rfl
      generalize a'.eval = ev at gF g23 |-
      exact exec_call1 rfl gF g23 (enters_of Tryz.func24 (by kernel_rfl) rfl)
    · exact (HTk.out X hB).mono fun e W' ⟨he, hw⟩ => ⟨_, he, by rw [hw]; exact Below.refl _ _, rfl⟩
   | 11, ho =>
    cases ho
    obtain rfl : 25 = d := Option.some.inj hd
    have g1 : a'.eval (.tmp 1) = .pointer (some ⟨kb, 0, none⟩) := hk 1 (by kernel_rfl)
    have gg : a'.eval (.tmp 22) = .bool false := hG ⟨8, .guard⟩ (by simp) rfl 22 rfl
    refine .inr ⟨Pa.want_yes (n := 62) (d := 22) rfl hs (by decide) rfl gg, .inl ⟨.pointer (some ⟨kb, 0, none⟩), X, ?_, Below.refl _ _, rfl⟩⟩
    generalize a'.eval = ev at g1 |-
    clear hG hk hs gg
    obtain ⟨q0, q1⟩ := HCl.out X hB
    go_simp
   | 12, ho =>
    cases ho
    obtain rfl : 26 = d := Option.some.inj hd
    have g25 : a'.eval (.tmp 25) = .pointer (some ⟨kb, 0, none⟩) := hG ⟨11, .data⟩ (by simp) rfl 25 rfl
    have gg : a'.eval (.tmp 22) = .bool false := hG ⟨8, .guard⟩ (by simp) rfl 22 rfl
    refine .inr ⟨Pa.want_yes (n := 62) (d := 22) rfl hs (by decide) rfl gg, .inl ⟨.pointer (some ⟨kb, 0, none⟩), X, ?_, Below.refl _ _, rfl⟩⟩
    generalize a'.eval = ev at g25 |-
    clear hG hk hs gg
    obtain ⟨q0, q1⟩ := HCl.out X hB
    go_simp
   | 13, ho =>
    cases ho
    obtain rfl : 27 = d := Option.some.inj hd
    have g26 : a'.eval (.tmp 26) = .pointer (some ⟨kb, 0, none⟩) := hG ⟨12, .data⟩ (by simp) rfl 26 rfl
    have gg : a'.eval (.tmp 22) = .bool false := hG ⟨8, .guard⟩ (by simp) rfl 22 rfl
    refine .inr ⟨Pa.want_yes (n := 62) (d := 22) rfl hs (by decide) rfl gg, .inl ⟨.pointer (some ⟨kb, 4, none⟩), X, ?_, Below.refl _ _, rfl⟩⟩
    generalize a'.eval = ev at g26 |-
    clear hG hk hs gg
    obtain ⟨q0, q1⟩ := HCl.out X hB
    go_simp
   | 14, ho =>
    cases ho
    obtain rfl : 28 = d := Option.some.inj hd
    have g27 : a'.eval (.tmp 27) = .pointer (some ⟨kb, 4, none⟩) := hG ⟨13, .data⟩ (by simp) rfl 27 rfl
    have gg : a'.eval (.tmp 22) = .bool false := hG ⟨8, .guard⟩ (by simp) rfl 22 rfl
    refine .inr ⟨Pa.want_yes (n := 62) (d := 22) rfl hs (by decide) rfl gg, .inl ⟨.int .i64 0, X, ?_, Below.refl _ _, rfl⟩⟩
    generalize a'.eval = ev at g27 |-
    clear hG hk hs gg
    obtain ⟨q0, q1⟩ := HCl.out X hB
    go_simp
   | 15, ho =>
    cases ho
    obtain rfl : 29 = d := Option.some.inj hd
    have g24 : a'.eval (.tmp 24) = .int .i64 0 := hG ⟨10, .data⟩ (by simp) rfl 24 rfl
    have g28 : a'.eval (.tmp 28) = .int .i64 0 := hG ⟨14, .data⟩ (by simp) rfl 28 rfl
    have gg : a'.eval (.tmp 22) = .bool false := hG ⟨8, .guard⟩ (by simp) rfl 22 rfl
    refine .inr ⟨Pa.want_yes (n := 62) (d := 22) rfl hs (by decide) rfl gg, .inl ⟨.bool false, X, ?_, Below.refl _ _, rfl⟩⟩
    generalize a'.eval = ev at g24 g28 |-
    clear hG hk hs gg
    obtain ⟨q0, q1⟩ := HCl.out X hB
    go_simp
   | 16, ho =>
    cases ho
    obtain rfl : 30 = d := Option.some.inj hd
    have g22 : a'.eval (.tmp 22) = .bool false := hG ⟨8, .data⟩ (by simp) rfl 22 rfl
    have g29 : a'.eval (.tmp 29) = .bool false := hG ⟨15, .data⟩ (by simp) rfl 29 rfl
    have k0 : a'.eval (.const (.bool true)) = (.bool true) := rfl
    generalize a'.eval = ev at g22 g29 k0 |-
    clear hG hk
    obtain ⟨q0, q1⟩ := HCl.out X hB
    exact .inr ⟨rfl, .inl ⟨.bool false, X, by clear hs; go_simp, Below.refl _ _, rfl⟩⟩
   | j + 17, ho => simp at ho
 · intro a' X hB hs hdf hk hG
   obtain ⟨tm, df⟩ := a'
   obtain rfl : df = [] := hdf
   have g14 : (tm.getD 14 undef) = .slice p l.length cc := hG 0 14 (by decide) rfl
   have g15 : (tm.getD 15 undef) = .pointer (some ⟨kb, 0, none⟩) := hG 1 15 (by decide) rfl
   have g16 : (tm.getD 16 undef) = .pointer (some ⟨kb, 0, none⟩) := hG 2 16 (by decide) rfl
   have g17 : (tm.getD 17 undef) = .pointer (some ⟨kb, 0, none⟩) := hG 3 17 (by decide) rfl
   have g18 : (tm.getD 18 undef) = .pointer (some ⟨rb, 0, none⟩) := hG 4 18 (by decide) rfl
   have g19 : PIds l ((tm.getD 19 undef)) X := hG 5 19 (by decide) rfl
   have g20 : (tm.getD 20 undef) = .bool true := hG 6 20 (by decide) rfl
   have g21 : (tm.getD 21 undef) = .bool false := hG 7 21 (by decide) rfl
   have g22 : (tm.getD 22 undef) = .bool false := hG 8 22 (by decide) rfl
   have g23 : (tm.getD 23 undef) = .pointer (some ⟨K.kb, 0, none⟩) := hG 9 23 (by decide) rfl
   have g24 : (tm.getD 24 undef) = .int .i64 0 := hG 10 24 (by decide) rfl
   have g25 : (tm.getD 25 undef) = .pointer (some ⟨kb, 0, none⟩) := hG 11 25 (by decide) rfl
   have g26 : (tm.getD 26 undef) = .pointer (some ⟨kb, 0, none⟩) := hG 12 26 (by decide) rfl
   have g27 : (tm.getD 27 undef) = .pointer (some ⟨kb, 4, none⟩) := hG 13 27 (by decide) rfl
   have g28 : (tm.getD 28 undef) = .int .i64 0 := hG 14 28 (by decide) rfl
   have g29 : (tm.getD 29 undef) = .bool false := hG 15 29 (by decide) rfl
   have g30 : (tm.getD 30 undef) = .bool false := hG 16 30 (by decide) rfl
   have htm := arr3 [.pointer (some ⟨K.kb, 0, none⟩), .pointer (some ⟨kb, 0, none⟩), undef, undef, .bool false, .slice p l.length cc, undef, undef, undef, undef, undef, undef, .pointer (some ⟨K.kb, 0, none⟩), .slice p l.length cc, tm.getD 14 undef, tm.getD 15 undef, tm.getD 16 undef, tm.getD 17 undef, tm.getD 18 undef, tm.getD 19 undef, tm.getD 20 undef, tm.getD 21 undef, tm.getD 22 undef, tm.getD 23 undef, tm.getD 24 undef, tm.getD 25 undef, tm.getD 26 undef, tm.getD 27 undef, tm.getD 28 undef, tm.getD 29 undef, tm.getD 30 undef, undef, undef, undef, undef, undef, undef, undef, undef, undef, undef, undef, undef, undef, undef, undef, undef, undef, undef, undef, undef, undef, undef, undef, undef, undef, undef, undef, undef, undef, undef, undef] hs (ae 1 (by exact hk 0 rfl) (ae 2 (by exact hk 1 rfl) (ae 3 (by exact hk 2 rfl) (ae 4 (by exact hk 3 rfl) (ae 5 (by exact hk 4 rfl) (ae 6 (by exact hk 5 rfl) (ae 7 (by exact hk 6 rfl) (ae 8 (by exact hk 7 rfl) (ae 9 (by exact hk 8 rfl) (ae 10 (by exact hk 9 rfl) (ae 11 (by exact hk 10 rfl) (ae 12 (by exact hk 11 rfl) (ae 13 (by exact hk 12 rfl) (ae 14 (by exact hk 13 rfl) (ae 15 rfl (ae 16 rfl (ae 17 rfl (ae 18 rfl (ae 19 rfl (ae 20 rfl (ae 21 rfl (ae 22 rfl (ae 23 rfl (ae 24 rfl (ae 25 rfl (ae 26 rfl (ae 27 rfl (ae 28 rfl (ae 29 rfl (ae 30 rfl (ae 31 rfl (ae 32 (by exact hk 31 rfl) (ae 33 (by exact hk 32 rfl) (ae 34 (by exact hk 33 rfl) (ae 35 (by exact hk 34 rfl) (ae 36 (by exact hk 35 rfl) (ae 37 (by exact hk 36 rfl) (ae 38 (by exact hk 37 rfl) (ae 39 (by exact hk 38 rfl) (ae 40 (by exact hk 39 rfl) (ae 41 (by exact hk 40 rfl) (ae 42 (by exact hk 41 rfl) (ae 43 (by exact hk 42 rfl) (ae 44 (by exact hk 43 rfl) (ae 45 (by exact hk 44 rfl) (ae 46 (by exact hk 45 rfl) (ae 47 (by exact hk 46 rfl) (ae 48 (by exact hk 47 rfl) (ae 49 (by exact hk 48 rfl) (ae 50 (by exact hk 49 rfl) (ae 51 (by exact hk 50 rfl) (ae 52 (by exact hk 51 rfl) (ae 53 (by exact hk 52 rfl) (ae 54 (by exact hk 53 rfl) (ae 55 (by exact hk 54 rfl) (ae 56 (by exact hk 55 rfl) (ae 57 (by exact hk 56 rfl) (ae 58 (by exact hk 57 rfl) (ae 59 (by exact hk 58 rfl) (ae 60 (by exact hk 59 rfl) (ae 61 (by exact hk 60 rfl) (ae 62 (by exact hk 61 rfl) az))))))))))))))))))))))))))))))))))))))))))))))))))))))))))))))
   clear hs hk hG
   generalize tm.getD 14 undef = t14 at htm g14
   generalize tm.getD 15 undef = t15 at htm g15
   generalize tm.getD 16 undef = t16 at htm g16
   generalize tm.getD 17 undef = t17 at htm g17
   generalize tm.getD 18 undef = t18 at htm g18
   generalize tm.getD 19 undef = t19 at htm g19
   generalize tm.getD 20 undef = t20 at htm g20
   generalize tm.getD 21 undef = t21 at htm g21
   generalize tm.getD 22 undef = t22 at htm g22
   generalize tm.getD 23 undef = t23 at htm g23
   generalize tm.getD 24 undef = t24 at htm g24
   generalize tm.getD 25 undef = t25 at htm g25
   generalize tm.getD 26 undef = t26 at htm g26
   generalize tm.getD 27 undef = t27 at htm g27
   generalize tm.getD 28 undef = t28 at htm g28
   generalize tm.getD 29 undef = t29 at htm g29
   generalize tm.getD 30 undef = t30 at htm g30
   subst htm
   subst g14
   subst g15
   subst g16
   subst g17
   subst g18
   subst g20
   subst g21
   subst g22
   subst g23
   subst g24
   subst g25
   subst g26
   subst g27
   subst g28
   subst g29
   subst g30
   simp only [List.drop_succ_cons, List.drop_zero]
   have HBX := Lib.hid (HB1.out.below hB)
   have HI := Lib.hid (Ho.IntsAt.below HI1.out hB)
   have HbX : Hid (Below W.heap.size W X) := Lib.hid (Hb1.out.trans (hB.mono Hb1.out.size))
   have HIo := Lib.hid infoO
   clear g19 hB HI1 HB1 Hb1 HCl HTk HSame HIds
   go_wp2
   go_loopw [33] (fun y wr => ∃ k : Nat, y = .int .i64 k /\ k <= l.length /\ Below X.heap.size X wr) (fun y _ => l.length - (RowKit.intOf y).toNat)
   case atStart => exact ⟨0, rfl, Nat.zero_le _, Below.refl _ _⟩
   case round =>
    obtain ⟨k, rfl, hk, hBw⟩ := hrel
    have hll := Hl1.out
    by_cases hlt : k < l.length
    · have hki : (k : Int) < (l.length : Int) := by omega
      obtain ⟨gi, oi, rfl, hgi, ci⟩ := HI.out k hlt
      have d0 : wr.cell? ⟨gi, oi + k, none⟩ = some (.int .i64 l[k]) := (hBw.cell (p := ⟨gi, oi + k, none⟩) hgi).trans ci
      have hx : ∃ i, i < 3 /\ (ids3 r c t).getD i 0 = l[k] := by
       rcases (Hml.out l[k]).1 (List.getElem_mem hlt) with e | e | e
       · exact ⟨0, by decide, e.symm⟩
       · exact ⟨1, by decide, e.symm⟩
       · exact ⟨2, by decide, e.symm⟩
      obtain ⟨xa, hxa⟩ : ∃ xa, l[k] = xa := ⟨_, rfl⟩
      rw [hxa] at d0 hx
      obtain ⟨i, hi3, hix⟩ := hx
      have HKo := Lib.hid (kObj_any (HBX.out.below hBw) HG.out i hi3)
      rw [hix] at HKo
      have HBw := Lib.hid hBw
      have Hix := Lib.hid hix
      have Hi3 := Lib.hid hi3
      have Hk := Lib.hid hk
      clear hBw hix hi3 hxa ci hgi hk
      go_wp2_with (go_at_call 25; refine HKo.out.mono ?_; rintro e W3 ⟨o1, rfl, hok1, hbr1, hB3⟩; refine Hid.out ?_)
      refine Lib.hid ?_
      have HB3 : Hid (Below X.heap.size X W3) := Lib.hid (HBw.out.trans (hB3.mono HBw.out.size))
      have Hl1' : Hid (o1.cl.length = 38) := Lib.hid (cl_len hok1.st)
      have Hok1 := Lib.hid hok1
      have Hbr1 := Lib.hid hbr1
      clear hok1 hbr1 hB3 HKo d0
      go_wp2_with (refine Rg.wpList_store_new W3 _ _ rfl _ _ _ rfl o1.cl rfl rfl (by rw [Hl1'.out]; rfl) (by rw [Hl1'.out]; exact HIo.out) (cl_one o1) (fun W4 hB4 hA8 hs4 => ?_); refine Hid.out ?_)
      refine Lib.hid ?_
      obtain ⟨b8, hb8⟩ : ∃ b8, W3.heap.size = b8 := ⟨_, rfl⟩
      have HB4 : Hid (Below X.heap.size X W4) := Lib.hid (HB3.out.trans (hB4.mono HB3.out.size))
      have Hok4 := Lib.hid (Hok1.out.below hB4)
      have HRo := Lib.hid (rObj_any (HBX.out.below HB4.out) HG.out i Hi3.out)
      rw [Hix.out] at HRo
      rw [hb8] at hA8 hs4 |-
      have HA8 := Lib.hid hA8
      have Hz8 : Hid (b8 < W4.heap.size) := Lib.hid (by omega)
      clear hB4 hA8 hs4 hb8 HB3 Hok1
      go_wp2_with (go_at_call 26; refine HRo.out.mono ?_; rintro e W5 ⟨o2, rfl, hok2, hbr2, hB5⟩; refine Hid.out ?_)
      refine Lib.hid ?_
      have HB5 : Hid (Below X.heap.size X W5) := Lib.hid (HB4.out.trans (hB5.mono HB4.out.size))
      have Hok5 := Lib.hid (Hok4.out.below hB5)
      have HA85 := Lib.hid (HA8.out.below hB5 Hz8.out)
      have Hz85 := Lib.hid (Nat.lt_of_lt_of_le Hz8.out hB5.size)
      have Hl2' : Hid (o2.cl.length = 38) := Lib.hid (cl_len hok2.st)
      have Hok2 := Lib.hid hok2
      have Hbr2 := Lib.hid hbr2
      clear hok2 hbr2 hB5 HRo HB4 Hok4 HA8 Hz8
      go_wp2_with (refine Rg.wpList_store_new W5 _ _ rfl _ _ _ rfl o2.cl rfl rfl (by rw [Hl2'.out]; rfl) (by rw [Hl2'.out]; exact HIo.out) (cl_one o2) (fun W6 hB6 hA10 hs6 => ?_); refine Hid.out ?_)
      refine Lib.hid ?_
      obtain ⟨b10, hb10⟩ : ∃ b10, W5.heap.size = b10 := ⟨_, rfl⟩
      have HB6 : Hid (Below X.heap.size X W6) := Lib.hid (HB5.out.trans (hB6.mono HB5.out.size))
      have HSm := Lib.hid (Vw.RSame_any o1 o2 W6 (Hok5.out.below hB6) (Hok2.out.below hB6))
      rw [obB_of (Hbr1.out.trans Hbr2.out.symm)] at HSm
      have HA86 := Lib.hid (HA85.out.below hB6 Hz85.out)
      rw [hb10] at hA10 |-
      have HA10 := Lib.hid hA10
      have HL8 : Hid ((loadVar 91 ⟨b8, 0, none⟩).run Tryz.prog W6 = .ok (.agg o1.cs) W6) := Lib.hid (run_loadVar_mid W6 b8 0 91 o1.cl _ HA86.out.rng Tryz.underlying91 rfl (by rw [Hl1'.out]; exact HIo.out))
      have HL10 : Hid ((loadVar 91 ⟨b10, 0, none⟩).run Tryz.prog W6 = .ok (.agg o2.cs) W6) := Lib.hid (run_loadVar_mid W6 b10 0 91 o2.cl _ HA10.out.rng Tryz.underlying91 rfl (by rw [Hl2'.out]; exact HIo.out))
      clear hB6 hA10 hs6 hb10 HB5 Hok5 HA85 Hz85 Hok2 Hbr1 Hbr2
      go_wp2_with (first
       | (refine Vw.wpList_load_atW2 rfl 91 _ rfl ⟨b8, 0, none⟩ rfl (.agg o1.cs) HL8.out ?_)
       | (refine Vw.wpList_load_atW2 rfl 91 _ rfl ⟨b10, 0, none⟩ rfl (.agg o2.cs) HL10.out ?_)
       | (go_at_call 27; refine HSm.out.mono ?_; rintro e W7 ⟨rfl, hB7⟩; refine Hid.out ?_))
      refine Lib.hid ?_
      have HB7 : Hid (Below X.heap.size X W7) := Lib.hid (HB6.out.trans (hB7.mono HB6.out.size))
      clear hB7 HSm HL8 HL10 HB6 HA86 HA10
      go_wp2
      go_roundw
      case rel => exact ⟨k + 1, by go_num, by omega, HB7.out⟩
      case measure => simp [RowKit.intOf]; omega
    · obtain rfl : k = l.length := by omega
      have hkk : ¬ (l.length : Int) < (l.length : Int) := by omega
      have HBw := Lib.hid hBw
      clear hBw HI
      go_wp2
      go_ret
      exact ⟨rfl, HbX.out.trans (HBw.out.mono HbX.out.size)⟩
def bootB (r c t : Int) : Bool := Ho.isCt r && (Ho.isCt c && (Ho.isCt t && ((r != c) && ((r != t) && (c != t)))))
theorem boot_cases (r c t : Int) : (Ho.isCt r = false /\ bootB r c t = false) ∨ (Ho.isCt r = true /\ Ho.isCt c = false /\ bootB r c t = false) ∨ (Ho.isCt r = true /\ Ho.isCt c = true /\ Ho.isCt t = false /\ bootB r c t = false) ∨
 (Ho.isCt r = true /\ Ho.isCt c = true /\ Ho.isCt t = true /\ (r != c) = false /\ bootB r c t = false) ∨ (Ho.isCt r = true /\ Ho.isCt c = true /\ Ho.isCt t = true /\ (r != c) = true /\ (r != t) = false /\ bootB r c t = false) ∨
 (Ho.isCt r = true /\ Ho.isCt c = true /\ Ho.isCt t = true /\ (r != c) = true /\ (r != t) = true /\ (c != t) = false /\ bootB r c t = false) ∨ (Ho.isCt r = true /\ Ho.isCt c = true /\ Ho.isCt t = true /\ (r != c) = true /\ (r != t) = true /\ (c != t) = true /\ bootB r c t = true) := by
 unfold bootB
 cases Ho.isCt r <;> cases Ho.isCt c <;> cases Ho.isCt t <;> cases (r != c) <;> cases (r != t) <;> cases (c != t) <;> simp
theorem canBoot_any (r c t : Int) (w : World) : Calls Tryz.prog 13 #[.agg #[.int .i64 r, .int .i64 c, .int .i64 t]] w fun e w' => e = .returned (.bool (bootB r c t)) /\ Below w.heap.size w w' := by
 have HN := Lib.hid isNumber_any
 rcases boot_cases r c t with ⟨h1, hb⟩ | ⟨h1, h2, hb⟩ | ⟨h1, h2, h3, hb⟩ | ⟨h1, h2, h3, h4, hb⟩ | ⟨h1, h2, h3, h4, h5, hb⟩ | ⟨h1, h2, h3, h4, h5, h6, hb⟩ | ⟨h1, h2, h3, h4, h5, h6, hb⟩ <;>
 · rw [hb]
   have HB := Lib.hid hb
   clear hb
   go_enter Tryz.func13, Tryz.ntmps13
   go_wp2_with (go_at_call 30; refine (HN.out _ _).mono ?_; rintro e w2 ⟨rfl, hw2⟩; rw [hw2]; clear hw2 w2)
   go_ret
   exact ⟨rfl, (Below.refl _ _).alloc (Nat.le_refl _) _⟩
theorem Booted_any (r c t : Int) (w : World) : Calls Tryz.prog 17 #[.agg #[.int .i64 r, .int .i64 c, .int .i64 t]] w fun e w' => e = .returned (.bool (bootB r c t)) /\ Below w.heap.size w w' := by
 have HN := Lib.hid Ho.Cat_any
 rcases boot_cases r c t with ⟨h1, hb⟩ | ⟨h1, h2, hb⟩ | ⟨h1, h2, h3, hb⟩ | ⟨h1, h2, h3, h4, hb⟩ | ⟨h1, h2, h3, h4, h5, hb⟩ | ⟨h1, h2, h3, h4, h5, h6, hb⟩ | ⟨h1, h2, h3, h4, h5, h6, hb⟩ <;>
 · rw [hb]
   have HB := Lib.hid hb
   clear hb
   go_enter Tryz.func17, Tryz.ntmps17
   go_wp2_with (go_at_call 40; refine (HN.out _ _).mono ?_; rintro e w2 ⟨rfl, hw2⟩; rw [hw2]; clear hw2 w2)
   go_ret
   exact ⟨rfl, (Below.refl _ _).alloc (Nat.le_refl _) _⟩
theorem New_no (r c t : Int) (w : World) (hb : bootB r c t = false) : Calls Tryz.prog 5 #[.agg #[.int .i64 r, .int .i64 c, .int .i64 t]] w fun e w' => e = .returned (.tuple #[.pointer none, .int .i64 1]) /\ Below w.heap.size w w' := by
 have HC := Lib.hid (fun X => canBoot_any r c t X)
 rw [hb] at HC
 obtain ⟨W0, hW0⟩ : ∃ W0, w.alloc (.cells #[.int .i64 r, .int .i64 c, .int .i64 t] 23) = W0 := ⟨_, rfl⟩
 have hb0 : Below w.heap.size w W0 := by rw [<- hW0]; exact (Below.refl _ _).alloc (Nat.le_refl _) _
 have hi0 : W0.heap[w.heap.size]? = some (.cells #[.int .i64 r, .int .i64 c, .int .i64 t] 23 (0, 0)) := by rw [<- hW0]; exact heap_alloc_new _ _
 have q0 : W0.cell? ⟨w.heap.size, 0, none⟩ = some (.int .i64 r) := by simp [World.cell?, hi0]
 have q1 : W0.cell? ⟨w.heap.size, 1, none⟩ = some (.int .i64 c) := by simp [World.cell?, hi0]
 have q2 : W0.cell? ⟨w.heap.size, 2, none⟩ = some (.int .i64 t) := by simp [World.cell?, hi0]
 have HB0 := Lib.hid hb0
 clear hb0 hi0
 go_enter Tryz.func5, Tryz.ntmps5
 go_upto_region 1 with fail
 try rw [hW0]
 clear hW0
 go_wp2_with (go_at_call 13; refine (HC.out _).mono ?_; rintro e w2 ⟨rfl, hb2⟩)
 refine bodyPost_ret (v := .tuple #[.pointer none, .int .i64 1]) (by simp [results, Tryz.results5, go_sem]) rfl ⟨rfl, HB0.out.trans (hb2.mono HB0.out.size)⟩
theorem rNew_no (r c t : Int) (w : World) (hb : bootB r c t = false) : Calls Tryz.prog 6 #[.agg #[.int .i64 r, .int .i64 c, .int .i64 t]] w fun e w' => e = .returned (.pointer none) /\ Below w.heap.size w w' := by
 have HC := Lib.hid (fun X => Booted_any r c t X)
 rw [hb] at HC
 obtain ⟨W0, hW0⟩ : ∃ W0, w.alloc (.cells #[.int .i64 r, .int .i64 c, .int .i64 t] 23) = W0 := ⟨_, rfl⟩
 have hb0 : Below w.heap.size w W0 := by rw [<- hW0]; exact (Below.refl _ _).alloc (Nat.le_refl _) _
 have hi0 : W0.heap[w.heap.size]? = some (.cells #[.int .i64 r, .int .i64 c, .int .i64 t] 23 (0, 0)) := by rw [<- hW0]; exact heap_alloc_new _ _
 have q0 : W0.cell? ⟨w.heap.size, 0, none⟩ = some (.int .i64 r) := by simp [World.cell?, hi0]
 have q1 : W0.cell? ⟨w.heap.size, 1, none⟩ = some (.int .i64 c) := by simp [World.cell?, hi0]
 have q2 : W0.cell? ⟨w.heap.size, 2, none⟩ = some (.int .i64 t) := by simp [World.cell?, hi0]
 have HB0 := Lib.hid hb0
 clear hb0 hi0
 go_enter Tryz.func6, Tryz.ntmps6
 go_upto_region 1 with fail
 try rw [hW0]
 clear hW0
 go_wp2_with (go_at_call 17; refine (HC.out _).mono ?_; rintro e w2 ⟨rfl, hb2⟩)
 go_ret
 exact ⟨rfl, HB0.out.trans (hb2.mono HB0.out.size)⟩
theorem one_lab (n : Int) (w : World) : Calls Tryz.prog 19 #[.int .i64 n] w fun e w' => e = .returned (.agg #[.int .i64 n, .slice none 0 0]) /\ Below w.heap.size w w' := by
 go_enter Tryz.func19, Tryz.ntmps19
 go_wp2
 refine bodyPost_ret (v := .agg #[.int .i64 n, .slice none 0 0]) (by simp [results, Tryz.results19, go_sem]) rfl ⟨rfl, ?_⟩
 go_grown
end Go.Proofs.YtmgfakfiiaeofaaGreat
