/- A step of the laws, the other kinds. -/
import Derived.Test.YthknnmllibdggaaStep1
namespace Go.Proofs.Ythknnmllibdggaa
open Go.RowKit Go.Sort
theorem Ns.still {w w' : World} {rb qb N : Nat} {F G : Nat → Prop} {all ra rl : List Who} {al : Int → List Int} (h : PS w rb qb F G all al ra rl N) (hb : Below w.heap.size w w') : Ns w w' rb qb F G (N + 1) :=
  Ns.of h (Below.refl _ _) (Nx.still h.rm (Below.refl _ _) (by omega)) (Below.refl _ _) (fun _ hq => Nr.still h.rf (Below.refl _ _) (by omega)) hb h.lk
set_option maxRecDepth 100000 in
set_option maxHeartbeats 8000000 in
theorem step_post (w : World) (rb qb : Nat) (F G : Nat → Prop) (all : List Who) (al : Int → List Int) (ra rl : List Who) (N : Nat) (h : PS w rb qb F G all al ra rl N) (hN : N < 700000) (th sg of cd : Int) (_ith : i64 th) (_isg : i64 sg) (_iof : i64 of) :
    Calls Try.prog 12 #[pv rb, pv qb, .agg #[.int .i64 3, .int .i64 th, .int .i64 sg, .int .i64 of, .int .i64 cd]] w fun e w' => e = .returned (.bool true) ∧ Ns w w' rb qb F G (N + 1) := by
  have HH := Lib.hid h
  obtain ⟨W1, hW1⟩ : ∃ W1, w.alloc (.cells #[.int .i64 3, .int .i64 th, .int .i64 sg, .int .i64 of, .int .i64 cd] 33) = W1 := ⟨_, rfl⟩
  have b1 : Below w.heap.size w W1 := by rw [← hW1]; exact (Below.refl _ _).alloc (Nat.le_refl _) _
  have hO : W1.heap[w.heap.size]? = some (.cells #[.int .i64 3, .int .i64 th, .int .i64 sg, .int .i64 of, .int .i64 cd] 33 (0, 0)) := by rw [← hW1]; exact heap_new _ _
  have d0 : W1.cell? ⟨w.heap.size, 0, none⟩ = some (.int .i64 3) := by rw [cell_of_row _ _ _ _ _ _ hO]; rfl
  have cW : ∀ X, Fm W1 X (fun k => F k ∨ G k) → _ := fun X hX => opn_cells hO (fun k e => e.elim (h.fl k) (h.gl k)) hX
  have hla := h.rm.len
  have hlr := h.rf.lenA
  have HB1 := Lib.hid b1
  clear h hO b1
  have HE := Lib.hid (HH.out.lk.postW th cd)
  obtain ⟨pw, hpw⟩ : ∃ z, postW all al th cd = z := ⟨_, rfl⟩
  obtain ⟨pe, hpe⟩ : ∃ z, postE al th cd = z := ⟨_, rfl⟩
  have HL : Hid (Lk (if pe = 0 then dropT th all else all) (if pe = 0 then setI al th (al th ++ [cd]) else al) (if pe = 0 then dropT th ra else ra) (if pe = 0 then rl ++ [(th, 0, cd)] else rl)) := by
    refine Lib.hid ?_
    split
    · rename_i h0
      refine HH.out.lk.dropT th (fun s => by rw [ofL_snoc, HH.out.lk.ofE]) (set_len HH.out.lk.h8 ?_)
      rw [h0] at hpe
      unfold postE at hpe
      split at hpe
      · cases hpe
      · split at hpe
        · cases hpe
        · simp; omega
    · exact HH.out.lk
  have hP := Post_any W1 rb F all al N th cd (HH.out.rm.below HB1.out) (by omega)
  rw [hpw, hpe] at hP
  have HP := Lib.hid hP
  have HR : Hid (∀ X, RFx X qb G ra rl N → Calls Try.prog 32 #[pv qb, .int .i64 th, .int .i64 cd] X fun e X' => e = .returned (.tuple #[.bool pw, .int .i64 pe]) ∧ Nr X X' qb G (if pe = 0 then dropT th ra else ra) (if pe = 0 then rl ++ [(th, 0, cd)] else rl) (N + 1)) := by
    refine Lib.hid (fun X hX => ?_)
    have hc := rPost_any X qb G ra rl N th cd hX (by omega) (by rw [HH.out.lk.ofE]; exact HH.out.lk.h8 th)
    rw [← HE.out, HH.out.lk.ofE, hpw, hpe] at hc
    exact hc
  clear hpw hpe hP HE
  obtain ⟨c0, c1, c2, c3, c4⟩ := cW W1 (Fm.refl _ _)
  go_enter Try.func12, Try.ntmps12
  go_wp2_with (go_at_call 17; refine HP.out.mono ?_; rintro e W2 ⟨rfl, hn⟩; refine Hid.out ?_)
  refine Lib.hid ?_
  have hj := PJ.one (W1 := W1) (ra' := if pe = 0 then dropT th ra else ra) HH.out (Below.refl _ _) hn
  have HR2 := Lib.hid (HR.out W2 (PJ.rf HH.out HB1.out hj.2))
  obtain ⟨e0, e1, e2, e3, e4⟩ := cW W2 hj.1
  have HJ := Lib.hid hj.2
  clear hn hj
  go_wp2_with (go_at_call 32; refine HR2.out.mono ?_; rintro e W3 ⟨rfl, hn⟩; refine Hid.out ?_)
  refine Lib.hid ?_
  have hj := PJ.two HH.out HJ.out hn HL.out
  have HJ2 := Lib.hid hj.2
  clear hn hj
  go_wp2_with fail
  go_ret
  exact ⟨rfl, PJ.ns HH.out HB1.out HJ2.out⟩
set_option maxRecDepth 100000 in
set_option maxHeartbeats 8000000 in
theorem step_take (w : World) (rb qb : Nat) (F G : Nat → Prop) (all : List Who) (al : Int → List Int) (ra rl : List Who) (N : Nat) (h : PS w rb qb F G all al ra rl N) (hN : N < 700000) (th sg of cd : Int) (ith : i64 th) (_isg : i64 sg) (_iof : i64 of) :
    Calls Try.prog 12 #[pv rb, pv qb, .agg #[.int .i64 4, .int .i64 th, .int .i64 sg, .int .i64 of, .int .i64 cd]] w fun e w' => e = .returned (.bool true) ∧ Ns w w' rb qb F G (N + 1) := by
  have HH := Lib.hid h
  obtain ⟨W1, hW1⟩ : ∃ W1, w.alloc (.cells #[.int .i64 4, .int .i64 th, .int .i64 sg, .int .i64 of, .int .i64 cd] 33) = W1 := ⟨_, rfl⟩
  have b1 : Below w.heap.size w W1 := by rw [← hW1]; exact (Below.refl _ _).alloc (Nat.le_refl _) _
  have hO : W1.heap[w.heap.size]? = some (.cells #[.int .i64 4, .int .i64 th, .int .i64 sg, .int .i64 of, .int .i64 cd] 33 (0, 0)) := by rw [← hW1]; exact heap_new _ _
  have d0 : W1.cell? ⟨w.heap.size, 0, none⟩ = some (.int .i64 4) := by rw [cell_of_row _ _ _ _ _ _ hO]; rfl
  have cW : ∀ X, Fm W1 X (fun k => F k ∨ G k) → _ := fun X hX => opn_cells hO (fun k e => e.elim (h.fl k) (h.gl k)) hX
  have hla := h.rm.len
  have hlr := h.rf.lenA
  have HB1 := Lib.hid b1
  clear h hO b1
  obtain ⟨tv, tb, htv⟩ : ∃ tv tb, takeV al th = .tuple #[.int .i64 tv, .bool tb] := by
    unfold takeV
    split
    · exact ⟨_, _, rfl⟩
    · exact ⟨_, _, rfl⟩
  have HL : Hid (Lk all (setI al th (al th).tail) ra (dropF rl th)) := Lib.hid (HH.out.lk.als (fun s => by rw [ofL_drop, HH.out.lk.ofE]) (set_len HH.out.lk.h8 (by have := HH.out.lk.h8 th; simp; omega)))
  have hP := Take_any W1 rb F all al N th ith (HH.out.rm.below HB1.out) (by omega)
  rw [htv] at hP
  have HP := Lib.hid hP
  have HR : Hid (∀ X, RFx X qb G ra rl N → Calls Try.prog 33 #[pv qb, .int .i64 th] X fun e X' => e = .returned (.tuple #[.int .i64 tv, .bool tb]) ∧ Nr X X' qb G ra (dropF rl th) N) := by
    refine Lib.hid (fun X hX => ?_)
    have hc := rTake_any X qb G ra rl N th hX (by omega)
    rw [HH.out.lk.ofE, htv] at hc
    exact hc
  clear htv hP
  obtain ⟨c0, c1, c2, c3, c4⟩ := cW W1 (Fm.refl _ _)
  go_enter Try.func12, Try.ntmps12
  go_wp2_with (go_at_call 18; refine HP.out.mono ?_; rintro e W2 ⟨rfl, h1, h2⟩; refine Hid.out ?_)
  refine Lib.hid ?_
  have hj := PJ.one (W1 := W1) (ra' := ra) HH.out (Below.refl _ _) (nx_of HH.out HB1.out.size h1 h2)
  have HR2 := Lib.hid (HR.out W2 (PJ.rf HH.out HB1.out hj.2))
  obtain ⟨e0, e1, e2, e3, e4⟩ := cW W2 hj.1
  have HJ := Lib.hid hj.2
  clear h1 h2 hj
  go_wp2_with (go_at_call 33; refine HR2.out.mono ?_; rintro e W3 ⟨rfl, hn⟩; refine Hid.out ?_)
  refine Lib.hid ?_
  have hj := PJ.two HH.out HJ.out (nr_of hn) HL.out
  have HJ2 := Lib.hid hj.2
  clear hn hj
  go_wp2_with fail
  go_ret
  exact ⟨rfl, PJ.ns HH.out HB1.out HJ2.out⟩
set_option maxRecDepth 100000 in
set_option maxHeartbeats 8000000 in
theorem step_other (w : World) (rb qb : Nat) (F G : Nat → Prop) (all : List Who) (al : Int → List Int) (ra rl : List Who) (N : Nat) (h : PS w rb qb F G all al ra rl N)  (kd th sg of cd : Int) (hkd : ¬ kd = 1 ∧ ¬ kd = 2 ∧ ¬ kd = 3 ∧ ¬ kd = 4 ∧ ¬ kd = 5 ∧ ¬ kd = 6) (_ith : i64 th) (_isg : i64 sg) (_iof : i64 of) :
    Calls Try.prog 12 #[pv rb, pv qb, .agg #[.int .i64 kd, .int .i64 th, .int .i64 sg, .int .i64 of, .int .i64 cd]] w fun e w' => e = .returned (.bool true) ∧ Ns w w' rb qb F G (N + 1) := by
  have HH := Lib.hid h
  obtain ⟨W1, hW1⟩ : ∃ W1, w.alloc (.cells #[.int .i64 kd, .int .i64 th, .int .i64 sg, .int .i64 of, .int .i64 cd] 33) = W1 := ⟨_, rfl⟩
  have b1 : Below w.heap.size w W1 := by rw [← hW1]; exact (Below.refl _ _).alloc (Nat.le_refl _) _
  have hO : W1.heap[w.heap.size]? = some (.cells #[.int .i64 kd, .int .i64 th, .int .i64 sg, .int .i64 of, .int .i64 cd] 33 (0, 0)) := by rw [← hW1]; exact heap_new _ _
  have d0 : W1.cell? ⟨w.heap.size, 0, none⟩ = some (.int .i64 kd) := by rw [cell_of_row _ _ _ _ _ _ hO]; rfl
  have HB1 := Lib.hid b1
  clear h hO b1
  obtain ⟨k1, k2, k3, k4, k5, k6⟩ := hkd
  go_enter Try.func12, Try.ntmps12
  go_wp2_with fail
  go_ret
  exact ⟨rfl, Ns.still HH.out HB1.out⟩
theorem step_any (w : World) (rb qb : Nat) (F G : Nat → Prop) (N : Nat) (h : Pl w rb qb F G N) (hN : N < 700000) (kd th sg of cd : Int) (ith : i64 th) (isg : i64 sg) (iof : i64 of) :
    Calls Try.prog 12 #[pv rb, pv qb, .agg #[.int .i64 kd, .int .i64 th, .int .i64 sg, .int .i64 of, .int .i64 cd]] w fun e w' => e = .returned (.bool true) ∧ Ns w w' rb qb F G (N + 1) := by
  obtain ⟨all, al, ra, rl, h⟩ := h
  by_cases k1 : kd = 1
  · subst k1; exact step_wait w rb qb F G all al ra rl N h hN th sg of cd ith isg iof
  by_cases k2 : kd = 2
  · subst k2; exact step_wake w rb qb F G all al ra rl N h hN th sg of cd ith isg iof
  by_cases k3 : kd = 3
  · subst k3; exact step_post w rb qb F G all al ra rl N h hN th sg of cd ith isg iof
  by_cases k4 : kd = 4
  · subst k4; exact step_take w rb qb F G all al ra rl N h hN th sg of cd ith isg iof
  by_cases k5 : kd = 5
  · subst k5; exact step_close w rb qb F G all al ra rl N h hN th sg of cd ith isg iof
  by_cases k6 : kd = 6
  · subst k6; exact step_forget w rb qb F G all al ra rl N h hN th sg of cd ith isg iof
  exact step_other w rb qb F G all al ra rl N h kd th sg of cd ⟨k1, k2, k3, k4, k5, k6⟩ ith isg iof
end Go.Proofs.Ythknnmllibdggaa
