/- What Build of package isa answers, for every text of a size that can be. -/
import Derived.Test.YtgldkmabhmlijaaDoorBytes
namespace Go.Proofs.YtgldkmabhmlijaaDoor
open Go.RowKit Go.Sort Go.Shelf
attribute [local go_sem] Oper.semAt_some
theorem PAt.own {β : Type} {B base Bp mb : Nat} (f : β → Nat) (g : β → Prg) (h : mb < B) : OwnFrom B (fun s W => PAt W base Bp mb (f s) (g s)) := fun s X Y row ⟨⟨v, hv, hr⟩, hm, h1, h2⟩ hg hrow => by
  refine ⟨⟨v, (hg.block Bp (Array.getElem?_eq_some_iff.1 hv).1 (fun e => ?_)).trans hv, hr.kept hg ?_⟩, World.ownsMap.kept hm hg (fun e => ?_), h1, h2⟩
  · obtain ⟨_, o, ho, hc⟩ := hrow Bp e.symm; rw [hv] at ho; cases ho; cases hc
  · rcases hr.2 with ⟨rfl, _⟩ | ⟨g, cap, cur, rfl, _, hgb, _⟩
    · exact .inl rfl
    · refine .inr fun e => ?_
      obtain ⟨_, o, ho, hc⟩ := hrow g (by rw [← e]; simp [Value.ownBlock]); rw [hgb] at ho; cases ho; cases hc
  · have := (hrow mb e.symm).1; omega
/-- A row of lines is read. -/
def rds (p : Prg) (l : List (Int × ByteArray)) : Prg := l.foldl (fun p x => (readS p x.1 x.2).2) p
/-- The first line that can't be one. -/
def badL : Prg → List (Int × ByteArray) → Option Int
  | _, [] => none
  | p, x :: l => if (readS p x.1 x.2).1 = true then badL (readS p x.1 x.2).2 l else some x.1
theorem rds_snoc (p : Prg) (l : List (Int × ByteArray)) (x : Int × ByteArray) : rds p (l ++ [x]) = (readS (rds p l) x.1 x.2).2 := by unfold rds; rw [List.foldl_append]; rfl
theorem badL_append : ∀ (p : Prg) (l l' : List (Int × ByteArray)), badL p (l ++ l') = (badL p l).or (badL (rds p l) l')
  | p, [], l' => rfl
  | p, x :: l, l' => by
    rw [List.cons_append, badL, badL]
    split
    · exact badL_append _ l l'
    · rfl
theorem badL_snoc_ok {p : Prg} {l : List (Int × ByteArray)} {x : Int × ByteArray} (h : badL p l = none) (hx : (readS (rds p l) x.1 x.2).1 = true) : badL p (l ++ [x]) = none := by
  rw [badL_append, h]; simp [badL, hx]
theorem badL_snoc_bad {p : Prg} {l l' : List (Int × ByteArray)} {x : Int × ByteArray} (h : badL p l = none) (hx : (readS (rds p l) x.1 x.2).1 = false) (hp : l ++ [x] <+: l') : badL p l' = some x.1 := by
  obtain ⟨t, rfl⟩ := hp
  rw [List.append_assoc, badL_append, h]; simp [badL, hx]
theorem readS_st (p : Prg) (n : Int) (s : ByteArray) : (readS p n s).2.st.length ≤ p.st.length + 1 := by
  unfold readS; split
  · simp
  · split <;> simp
theorem rds_st : ∀ (l : List (Int × ByteArray)) (p : Prg), (rds p l).st.length ≤ p.st.length + l.length
  | [], p => by simp [rds]
  | x :: l, p => by
    have := rds_st l (readS p x.1 x.2).2
    have h2 := readS_st p x.1 x.2
    show (rds (readS p x.1 x.2).2 l).st.length ≤ _
    simp only [List.length_cons]; omega
def Prg.small (p : Prg) : Prop := ∀ x ∈ p.st, x.name.size ≤ 4294967281
theorem stp_name (s : ByteArray) (hs : s.size < 4294967281) : (stpS s).name.size ≤ 4294967281 := by
  unfold stpS; split
  · show 0 ≤ _; omega
  · show (tailS s).size ≤ _; unfold tailS; rw [ByteArray.size_extract]; omega
theorem readS_small {p : Prg} {n : Int} {s : ByteArray} (h : p.small) (hs : s.size < 4294967281) : (readS p n s).2.small := by
  unfold readS; split
  · exact h
  · split
    · exact h
    · intro x hx
      rcases List.mem_append.1 hx with h' | h'
      · exact h x h'
      · rw [List.mem_singleton] at h'; subst h'; exact stp_name s hs
theorem Prg.small.at {p : Prg} (h : p.small) (i : Nat) : (p.st.getD i ste0).name.size ≤ maxLen := by
  rw [List.getD_eq_getElem?_getD]
  cases hx : p.st[i]? with
  | none => show 0 ≤ _; omega
  | some x => have := h x (List.mem_of_getElem? hx); show x.name.size ≤ 2 ^ 63 - 1; omega
theorem heap_new (w : World) (o : Obj) : (w.alloc o).heap[w.heap.size]? = some o := by show (w.heap.push o)[w.heap.size]? = _; simp
def prg0 : Prg := ⟨[], .map []⟩
def buildR (s : ByteArray) : Array Value :=
  if 1024 < cnt (allLn s) then #[.string ⟨#[]⟩, .int .i64 0, .int .i64 7]
  else match badL prg0 (allLn s) with
  | some n => #[.string ⟨#[]⟩, .int .i64 n, .int .i64 2]
  | none => bytesR (rds prg0 (allLn s))
theorem bytesR_three (p : Prg) : ∃ a b c, bytesR p = #[.string a, .int .i64 b, .int .i64 c] := by
  unfold bytesR; split <;> exact ⟨_, _, _, rfl⟩
set_option maxRecDepth 100000 in
set_option maxHeartbeats 1000000 in
theorem Build_any (s : ByteArray) (w : World) (hE : Env w) (hs : s.size < 900000) :
    Calls Tryd.prog 9 #[.string s] w fun e w' => e = .returned (.tuple (buildR s)) ∧ Below w.heap.size w w' := by
  have HC : Hid (∀ W, Env W → Calls Tryd.prog 16 #[.string s] W fun e w' => e = .returned (.bool (decide (1024 < cnt (allLn s)))) ∧ Below W.heap.size W w') := fun W hW => isCrowded_any s W hW (by omega)
  have HB : Hid (buildR s = if 1024 < cnt (allLn s) then #[.string ⟨#[]⟩, .int .i64 0, .int .i64 7] else match badL prg0 (allLn s) with | some n => #[.string ⟨#[]⟩, .int .i64 n, .int .i64 2] | none => bytesR (rds prg0 (allLn s))) := rfl
  refine (callsIn_wide (n := 3)).1 ?_
  have h1 : Fence.wide.fn 9 := trivial
  have h2 : Fence.wide.fn 17 := trivial
  have h3 : Fence.wide.fn 31 := trivial
  have h4 : Fence.wide.fn 16 := trivial
  have h5 : Fence.wide.fn 18 := trivial
  have h6 : Fence.wide.fn 19 := trivial
  have hro : Fence.wide.round = none := rfl
  obtain ⟨W0, hW0⟩ : ∃ W0, (((w.alloc (.cells #[.string ⟨#[]⟩] 9)).alloc (.cells #[.int .i64 0] 3)).alloc (.cells #[.int .i64 0] 26)) = W0 := ⟨_, rfl⟩
  have hB0 : Below w.heap.size w W0 := by rw [← hW0]; go_grown
  have hE0 := hE.below hB0
  refine callsIn_of_wp_marks Tryd.func9 rfl h1 ?_ hro
  simp only [Tryd.ntmps9, List.size_toArray, List.length_cons, List.length_nil, Nat.reduceAdd, Nat.reduceSub, Array.replicate_succ, Array.replicate_zero, List.push_toArray, List.append_toArray, List.nil_append, List.cons_append]
  by_cases hc : 1024 < cnt (allLn s)
  · have HC' : Hid (∀ W, Env W → Calls Tryd.prog 16 #[.string s] W fun e w' => e = .returned (.bool true) ∧ Below W.heap.size W w') := fun W hW => by have := HC.out W hW; rwa [decide_eq_true hc] at this
    rw [if_pos hc] at HB
    have q0 : W0.cell? ⟨w.heap.size, 0, none⟩ = some (.string ⟨#[]⟩) ∧ W0.cell? ⟨w.heap.size + 1, 0, none⟩ = some (.int .i64 0) ∧ W0.cell? ⟨w.heap.size + 2, 0, none⟩ = some (.int .i64 0) ∧ W0.frozen? ⟨w.heap.size, 0, none⟩ = false ∧ W0.frozen? ⟨w.heap.size + 1, 0, none⟩ = false ∧ W0.frozen? ⟨w.heap.size + 2, 0, none⟩ = false := by rw [← hW0]; simp [go_sem]
    have hz0 : W0.heap.size = w.heap.size + 3 := by rw [← hW0]; simp
    have HQ0 := Lib.hid q0
    clear HC hc q0
    gi_wp2_with (first | (gi_at_call 16; refine (callsIn_wide.2 (HC'.out _ hE0)).mono ?_; rintro e w1 ⟨rfl, hb1⟩; refine Hid.out ?_))
    refine Lib.hid ?_
    obtain ⟨a1, a2, a3, a4, a5, a6⟩ := HQ0.out
    replace a1 := (hb1.cell (p := ⟨w.heap.size, 0, none⟩) (by simp; omega)).trans a1
    replace a2 := (hb1.cell (p := ⟨w.heap.size + 1, 0, none⟩) (by simp; omega)).trans a2
    replace a3 := (hb1.cell (p := ⟨w.heap.size + 2, 0, none⟩) (by simp; omega)).trans a3
    replace a4 := (hb1.frozen (p := ⟨w.heap.size, 0, none⟩) (by simp; omega)).trans a4
    replace a5 := (hb1.frozen (p := ⟨w.heap.size + 1, 0, none⟩) (by simp; omega)).trans a5
    replace a6 := (hb1.frozen (p := ⟨w.heap.size + 2, 0, none⟩) (by simp; omega)).trans a6
    clear hW0
    gi_wp2
    have hb1' : Below w.heap.size w w1 := hB0.trans (hb1.mono (by omega))
    refine ⟨.tuple #[.string ⟨#[]⟩, .int .i64 0, .int .i64 7], ?_, by rw [HB.out], ((hb1'.setCell (p := ⟨w.heap.size, 0, none⟩) (Nat.le_refl _) _).setCell (p := ⟨w.heap.size + 1, 0, none⟩) (by simp) _).setCell (p := ⟨w.heap.size + 1 + 1, 0, none⟩) (by simp; omega) _⟩
    simp [results, Tryd.results9, go_sem, a1, a2, a3]
  · have HC' : Hid (∀ W, Env W → Calls Tryd.prog 16 #[.string s] W fun e w' => e = .returned (.bool false) ∧ Below W.heap.size W w') := fun W hW => by have := HC.out W hW; rwa [decide_eq_false hc] at this
    rw [if_neg hc] at HB
    clear HC
    have hmm := @run_makeMap Tryd.prog
    gi_wp2_with (first | (gi_at_call 16; refine (callsIn_wide.2 (HC'.out _ hE0)).mono ?_; rintro e w1 ⟨rfl, hb1⟩) | (gi_at_call 17; refine (callsIn_wide.2 (lines_any _ _)).mono ?_; rintro e w' ⟨rfl, rfl⟩))
    obtain ⟨W2, hW2⟩ : ∃ W2, (((w1.alloc (.map #[] 0)).alloc (.cells #[.slice none 0 0, .map (some w1.heap.size)] 55)).alloc (.cells #[.string s] 9)) = W2 := ⟨_, rfl⟩
    have hb2 : Below w1.heap.size w1 W2 := by rw [← hW2]; go_grown
    have hsz : W2.heap.size = w1.heap.size + 3 := by rw [← hW2]; simp
    have hz0 : W0.heap.size = w.heap.size + 3 := by rw [← hW0]; simp
    have hz1 := hb1.size
    have hB1 : Below w.heap.size w w1 := hB0.trans (hb1.mono (by omega))
    have hB2 : Below w.heap.size w W2 := hB1.trans (hb2.mono (by omega))
    have hE1 := hE.below hB1
    have hE2 := hE1.below hb2
    have t0 : W2.cell? ⟨w1.heap.size + 2, 0, none⟩ = some (.string s) := by rw [← hW2]; simp [go_sem]
    have hP2 : PAt W2 w1.heap.size (w1.heap.size + 1) w1.heap.size 0 prg0 := by
      have hm : MapAt W2 w1.heap.size 0 (.map []) := by rw [← hW2]; exact ((World.ownsMap_made w1 _ _ _).alloc _).alloc _
      refine ⟨⟨.slice none 0 0, ?_, World.ownsRow_nil _ _ _ _⟩, hm, by omega, by omega⟩
      rw [← hW2]; exact (Below.heap_alloc _ _ _ (by simp)).trans (by have := heap_new (w1.alloc (.map #[] 0)) (.cells #[.slice none 0 0, .map (some w1.heap.size)] 55); rwa [show (w1.alloc (.map #[] 0)).heap.size = w1.heap.size + 1 from by simp] at this)
    have q0 : W0.cell? ⟨w.heap.size, 0, none⟩ = some (.string ⟨#[]⟩) ∧ W0.cell? ⟨w.heap.size + 1, 0, none⟩ = some (.int .i64 0) ∧ W0.cell? ⟨w.heap.size + 2, 0, none⟩ = some (.int .i64 0) ∧ W0.frozen? ⟨w.heap.size, 0, none⟩ = false ∧ W0.frozen? ⟨w.heap.size + 1, 0, none⟩ = false ∧ W0.frozen? ⟨w.heap.size + 2, 0, none⟩ = false := by rw [← hW0]; simp [go_sem]
    have hb12 : Below W0.heap.size W0 W2 := hb1.trans (hb2.mono (by omega))
    rw [hW2]
    clear hW2 hW0 hmm HC'
    have HQ : Hid (∀ W, Below w1.heap.size W2 W → W.cell? ⟨w.heap.size, 0, none⟩ = some (.string ⟨#[]⟩) ∧ W.cell? ⟨w.heap.size + 1, 0, none⟩ = some (.int .i64 0) ∧ W.cell? ⟨w.heap.size + 2, 0, none⟩ = some (.int .i64 0) ∧ W.frozen? ⟨w.heap.size, 0, none⟩ = false ∧ W.frozen? ⟨w.heap.size + 1, 0, none⟩ = false ∧ W.frozen? ⟨w.heap.size + 2, 0, none⟩ = false) := fun W hW => by
      have hh : Below W0.heap.size W0 W := hb12.trans (hW.mono hz1)
      obtain ⟨a1, a2, a3, a4, a5, a6⟩ := q0
      exact ⟨(hh.cell (p := ⟨w.heap.size, 0, none⟩) (by simp; omega)).trans a1, (hh.cell (p := ⟨w.heap.size + 1, 0, none⟩) (by simp; omega)).trans a2, (hh.cell (p := ⟨w.heap.size + 2, 0, none⟩) (by simp; omega)).trans a3, (hh.frozen (p := ⟨w.heap.size, 0, none⟩) (by simp; omega)).trans a4, (hh.frozen (p := ⟨w.heap.size + 1, 0, none⟩) (by simp; omega)).trans a5, (hh.frozen (p := ⟨w.heap.size + 2, 0, none⟩) (by simp; omega)).trans a6⟩
    clear q0
    refine wpIn_rangeFunc_ownH hro (by decide) (gf := 31) (lb := #[.pointer (some ⟨w1.heap.size + 2, 0, none⟩)]) rfl h3 (enters_of Tryd.func31 (by kernel_rfl) rfl)
      (lines_stops 2 (by decide) (w1.heap.size + 2) w1.heap.size s W2 (by omega) hE2 hE1.big (by omega) t0 (by omega)) (fun h k => h.trans k) (belowK_b (by omega)) (Below.refl _ _) (fun _ => rfl)
      (fun pre W => (badL prg0 (pre.map (·.1)) = none ∧ (rds prg0 (pre.map (·.1))).small) ∧ PAt W w1.heap.size (w1.heap.size + 1) w1.heap.size pre.length (rds prg0 (pre.map (·.1))) ∧ Below w1.heap.size W2 W)
      (fun c pre W => (c = .ret ∧ ∃ pr x, pre = pr ++ [x] ∧ badL prg0 (pr.map (·.1)) = none ∧ (readS (rds prg0 (pr.map (·.1))) x.1.1 x.1.2).1 = false ∧ W.cell? ⟨w.heap.size, 0, none⟩ = some (.string ⟨#[]⟩) ∧ W.cell? ⟨w.heap.size + 1, 0, none⟩ = some (.int .i64 x.1.1) ∧ W.cell? ⟨w.heap.size + 2, 0, none⟩ = some (.int .i64 2)) ∧ Below w.heap.size w W)
      (OwnFrom.and (fun s A B row hs _ _ => hs) (OwnFrom.and (PAt.own _ _ (by omega)) (ownFrom_below (by omega) (by omega))))
      (fun c => OwnFrom.and (Own.from (fun s A B row hs hg hr => by obtain ⟨e1, pr, x, e2, e3, e4, k1, k2, k3⟩ := hs; exact ⟨e1, pr, x, e2, e3, e4, cell_kept k1 hg hr, cell_kept k2 hg hr, cell_kept k3 hg hr⟩) _) (ownFrom_below (Nat.le_refl _) (by omega)))
      ⟨⟨rfl, fun x hx => by simp [rds, prg0] at hx⟩, hP2, Below.refl _ _⟩
      (fun x a' W => a' = { tmps := #[.string s, undef, .pointer (some ⟨w.heap.size, 0, none⟩), .pointer (some ⟨w.heap.size + 1, 0, none⟩), .pointer (some ⟨w.heap.size + 1 + 1, 0, none⟩), .pointer (some ⟨w1.heap.size + 1, 0, none⟩), .int .i64 x.1.1, .string x.1.2, .string s, .bool false, .map (some w1.heap.size), .agg #[.slice none 0 0, .map (some w1.heap.size)], .string s, .func (.func 31) #[] #[.pointer (some ⟨w1.heap.size + 1 + 1, 0, none⟩)], .int .i64 x.1.1, .string x.1.2, undef, undef, undef, undef, undef, undef, undef, undef, undef], defers := [] })
      (fun x a' _ X Y row hs hg hr => hs)
      ?assign ?body ?done ?stop
    case assign =>
      rintro l pre x W K ⟨hv, hP, hB⟩ hK
      simp only [encL]
      gi_wp2
      exact hK _ _ ((KeepsOthers.refl _).from _) (Below.refl _ _) ⟨hv, hP, hB⟩ rfl
    case body =>
      rintro l pre x a' W hl hr ⟨⟨hv, hsm⟩, hP, hB⟩ rfl hlt
      have hxs := x.property
      have hE3 : Env W := hE2.keep hB hE1.big
      have hst : (rds prg0 (pre.map (·.1))).st.length < 1000000 := by
        have := rds_st (pre.map (·.1)) prg0
        rw [List.length_map] at this
        have h0 : prg0.st.length = 0 := rfl
        omega
      have HR := Lib.hid (read_any w1.heap.size (w1.heap.size + 1) w1.heap.size pre.length _ x.1.1 x.1.2 W hE3 hP hxs hst (by omega))
      have HS : Hid (rds prg0 ((pre ++ [x]).map (·.1)) = (readS (rds prg0 (pre.map (·.1))) x.1.1 x.1.2).2) := by simp only [Hid]; rw [List.map_append, List.map_singleton, rds_snoc]
      have HO : Hid ((readS (rds prg0 (pre.map (·.1))) x.1.1 x.1.2).1 = true → badL prg0 ((pre ++ [x]).map (·.1)) = none) := fun h => by rw [List.map_append, List.map_singleton]; exact badL_snoc_ok hv h
      have HM : Hid ((rds prg0 ((pre ++ [x]).map (·.1))).small) := by simp only [Hid]; rw [HS.out]; exact readS_small hsm (by omega)
      have HV := Lib.hid hv
      have HB3 := Lib.hid hB
      clear hv hsm hP hB hst
      by_cases hok : (readS (rds prg0 (pre.map (·.1))) x.1.1 x.1.2).1 = true
      · rw [hok] at HR
        have HO' := Lib.hid (HO.out hok)
        clear hok HO
        gi_wp2_with (gi_at_call 18; refine (CallsIn.inRound l (callsIn_wide.2 HR.out)).mono ?_; rintro e w3 ⟨rfl, hp3, hb3, hk3⟩)
        refine ⟨?_, hb3, ⟨HO'.out, HM.out⟩, ?_, HB3.out.trans hb3⟩
        · exact ⟨hk3.size, fun k o hB' hk ho => hk3.same k o (by omega) hk ho⟩
        · rw [HS.out, List.length_append]; exact hp3
      · have hok' : (readS (rds prg0 (pre.map (·.1))) x.1.1 x.1.2).1 = false := by simpa using hok
        rw [hok'] at HR
        have HK := Lib.hid hok'
        clear hok hok' HO
        gi_wp2_with (gi_at_call 18; refine (CallsIn.inRound l (callsIn_wide.2 HR.out)).mono ?_; rintro e w3 ⟨rfl, hp3, hb3, hk3⟩; obtain ⟨a1, a2, a3, a4, a5, a6⟩ := HQ.out w3 (HB3.out.trans hb3))
        have hk3' : KeepsFrom W2.heap.size W w3 := ⟨hk3.size, fun k o hB' hk ho => hk3.same k o (by omega) hk ho⟩
        have hb3' : Below w.heap.size w w3 := hB2.trans ((HB3.out.trans hb3).mono (by omega))
        refine ⟨hk3'.trans ((((KeepsOthers.setCell _ _ _).trans (KeepsOthers.setCell _ _ _)).trans (KeepsOthers.setCell _ _ _)).from _), ⟨rfl, pre, x, rfl, HV.out, HK.out, ?_, ?_, ?_⟩, ((hb3'.setCell (p := ⟨w.heap.size, 0, none⟩) (Nat.le_refl _) _).setCell (p := ⟨w.heap.size + 1, 0, none⟩) (by simp) _).setCell (p := ⟨w.heap.size + 1 + 1, 0, none⟩) (by simp; omega) _⟩
        · simp [go_sem, a1]
        · simp [go_sem, a2]
        · simp [go_sem, a3]
    case done =>
      rintro D zs W hD hzs ⟨⟨hv, hsm⟩, hP, hB⟩ hK
      have hlz : zs.length ≤ s.size + 1 := by have h1 := congrArg List.length hzs; rw [List.length_map] at h1; have h2 := lnE_len (s.size + 1) 1 s.data.toList; unfold allLn at h1; omega
      rw [hzs] at hv hP hsm
      have hst : (rds prg0 (allLn s)).st.length < 1000000 := by
        have := rds_st (allLn s) prg0
        have h0 : prg0.st.length = 0 := rfl
        have h1 := congrArg List.length hzs
        rw [List.length_map] at h1
        omega
      have HY := Lib.hid (bytes_any _ _ _ _ _ W hP hst hsm.at)
      have HF : Hid (buildR s = bytesR (rds prg0 (allLn s))) := by simp only [Hid]; rw [HB.out, hv]
      obtain ⟨v1, v2, v3, hvv⟩ := bytesR_three (rds prg0 (allLn s))
      rw [hvv] at HY HF
      obtain ⟨a1, a2, a3, a4, a5, a6⟩ := HQ.out W hB
      have HB3 := Lib.hid hB
      have hWs := hB.size
      clear hv hsm hP hB hst hvv HB
      gi_wp2_with (gi_at_call 19; refine (callsIn_wide.2 HY.out).mono ?_; rintro e w3 ⟨rfl, hb3⟩; refine Hid.out ?_)
      refine Lib.hid ?_
      obtain ⟨c1, c2, c3, c4, c5, c6⟩ := HQ.out w3 (HB3.out.trans (hb3.mono (by omega)))
      have hK3 : w3.heap[D]? = some (.deferred (some [])) := (hb3.block D (Array.getElem?_eq_some_iff.1 hK).1).trans hK
      gi_wp2
      have hK1 := (KeepsOthers.setCell w3 ⟨w.heap.size, 0, none⟩ (.string v1)).same D _ hK3 rfl
      have hK2 := (KeepsOthers.setCell (w3.setCell ⟨w.heap.size, 0, none⟩ (.string v1)) ⟨w.heap.size + 1, 0, none⟩ (.int .i64 v2)).same D _ hK1 rfl
      have hK' := (KeepsOthers.setCell ((w3.setCell ⟨w.heap.size, 0, none⟩ (.string v1)).setCell ⟨w.heap.size + 1, 0, none⟩ (.int .i64 v2)) ⟨w.heap.size + 1 + 1, 0, none⟩ (.int .i64 v3)).same D _ hK2 rfl
      have hb3' : Below w.heap.size w w3 := hB2.trans ((HB3.out.trans (hb3.mono (by omega))).mono (by omega))
      have hb5 := ((hb3'.setCell (p := ⟨w.heap.size, 0, none⟩) (Nat.le_refl _) (.string v1)).setCell (p := ⟨w.heap.size + 1, 0, none⟩) (by simp) (.int .i64 v2)).setCell (p := ⟨w.heap.size + 1 + 1, 0, none⟩) (by simp; omega) (.int .i64 v3)
      have d1 : (((w3.setCell ⟨w.heap.size, 0, none⟩ (.string v1)).setCell ⟨w.heap.size + 1, 0, none⟩ (.int .i64 v2)).setCell ⟨w.heap.size + 1 + 1, 0, none⟩ (.int .i64 v3)).cell? ⟨w.heap.size, 0, none⟩ = some (.string v1) := by simp [go_sem, c1]
      have d2 : (((w3.setCell ⟨w.heap.size, 0, none⟩ (.string v1)).setCell ⟨w.heap.size + 1, 0, none⟩ (.int .i64 v2)).setCell ⟨w.heap.size + 1 + 1, 0, none⟩ (.int .i64 v3)).cell? ⟨w.heap.size + 1, 0, none⟩ = some (.int .i64 v2) := by simp [go_sem, c2]
      have d3 : (((w3.setCell ⟨w.heap.size, 0, none⟩ (.string v1)).setCell ⟨w.heap.size + 1, 0, none⟩ (.int .i64 v2)).setCell ⟨w.heap.size + 1 + 1, 0, none⟩ (.int .i64 v3)).cell? ⟨w.heap.size + 1 + 1, 0, none⟩ = some (.int .i64 v3) := by simp [go_sem, c3]
      generalize (((w3.setCell ⟨w.heap.size, 0, none⟩ (.string v1)).setCell ⟨w.heap.size + 1, 0, none⟩ (.int .i64 v2)).setCell ⟨w.heap.size + 1 + 1, 0, none⟩ (.int .i64 v3)) = W5 at hK' hb5 d1 d2 d3 ⊢
      refine ⟨by simp, .inl ⟨_, _, rfl, run_takeDeferred hK', ?_⟩⟩
      have f1 := cell_kept d1 (grownBy_putObj' _ D (.deferred none)) (fun r e => by cases e; exact ⟨_, hK', rfl⟩)
      have f2 := cell_kept d2 (grownBy_putObj' _ D (.deferred none)) (fun r e => by cases e; exact ⟨_, hK', rfl⟩)
      have f3 := cell_kept d3 (grownBy_putObj' _ D (.deferred none)) (fun r e => by cases e; exact ⟨_, hK', rfl⟩)
      refine ⟨.tuple #[.string v1, .int .i64 v2, .int .i64 v3], ?_, by rw [HF.out], hb5.trans (belowK_b (w := w) (Nat.le_refl _) W5 D _ _ (by omega) hK' rfl rfl)⟩
      simp [results, Tryd.results9, go_sem, f1, f2, f3]
    case stop =>
      rintro D c pre W hD hpre ⟨⟨rfl, pr, x, rfl, e3, e4, k1, k2, k3⟩, hB⟩ hK
      rw [List.map_append, List.map_singleton] at hpre
      have HF : Hid (buildR s = #[.string ⟨#[]⟩, .int .i64 x.1.1, .int .i64 2]) := by simp only [Hid]; rw [HB.out, badL_snoc_bad e3 e4 hpre]
      clear e3 e4 hpre HB
      gi_wp2
      refine ⟨by simp, .inl ⟨_, _, rfl, run_takeDeferred hK, ?_⟩⟩
      have c1 := cell_kept k1 (grownBy_putObj' _ D (.deferred none)) (fun r e => by cases e; exact ⟨_, hK, rfl⟩)
      have c2 := cell_kept k2 (grownBy_putObj' _ D (.deferred none)) (fun r e => by cases e; exact ⟨_, hK, rfl⟩)
      have c3 := cell_kept k3 (grownBy_putObj' _ D (.deferred none)) (fun r e => by cases e; exact ⟨_, hK, rfl⟩)
      refine ⟨.tuple #[.string ⟨#[]⟩, .int .i64 x.1.1, .int .i64 2], ?_, by rw [HF.out], hB.trans (belowK_b (w := w) (Nat.le_refl _) W D _ _ (by omega) hK rfl rfl)⟩
      simp [results, Tryd.results9, go_sem, c1, c2, c3]
end Go.Proofs.YtgldkmabhmlijaaDoor
