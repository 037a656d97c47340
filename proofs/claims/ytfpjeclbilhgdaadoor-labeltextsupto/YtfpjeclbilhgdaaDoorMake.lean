/- What SortFunc of package slices does with a row of entries that is the call's own, and what Make answers where no two entries have one category. -/
import Derived.Test.YtfpjeclbilhgdaaDoorMade
import Derived.Test.YtfpjeclbilhgdaaDoorShelf
import Derived.Lib.Hide
namespace Go.Proofs.YtfpjeclbilhgdaaDoor
open Go.RowKit Go.Sort Go.Shelf

def encE (x : Int × Int) : List Value := [.int .i64 x.1, .int .i64 x.2]
def cfE (x y : Int × Int) : Int := Lib.compareInt x.1 y.1

set_option maxHeartbeats 1000000 in
theorem cmp_any (x y : Int × Int) (W : World) : Calls Tryd.prog 29 #[.agg #[.int .i64 x.1, .int .i64 x.2], .agg #[.int .i64 y.1, .int .i64 y.2]] W fun e w' => e = .returned (.int .i64 (cfE x y)) ∧ ∃ q os', w' = grow (W.drewN q) os' := by
  have hcon := fun W' => AnyG.cmp_Compare_int Tryd.cmpInt x.1 y.1 W'
  change ∀ W', Calls Tryd.prog 30 _ _ _ at hcon
  unfold cfE
  generalize Lib.compareInt x.1 y.1 = r at hcon ⊢
  go_enter Tryd.func29, Tryd.ntmps29
  go_wp2_with (go_at_call 30; refine (hcon _).mono ?_; rintro e w' ⟨rfl, rfl⟩)
  go_ret
  exact ⟨rfl, 0, _, by rw [alloc_eq_grow, alloc_eq_grow, grow_grow]; rfl⟩
theorem cmpLays (blk off size : Nat) (w : World) : CmpLays Tryd.prog 29 #[] encE 2 cfE blk off size w :=
  fun _ _ _ _ x y => cmp_any x y _
theorem ltE (x y : Int × Int) : ltOf cfE x y = decide (x.1 < y.1) := by
  unfold ltOf cfE Lib.compareInt
  by_cases h1 : x.1 < y.1
  · simp [h1]
  · by_cases h2 : y.1 < x.1 <;> simp [h1, h2]
theorem swoE : SWO (ltOf cfE) := {
  irrefl := fun x => by rw [ltE]; simp
  trans := fun x y z h1 h2 => by rw [ltE] at *; simp at *; omega
  ntrans := fun x y z h1 h2 => by rw [ltE] at *; simp at *; omega }

theorem flatK_eq (xs : List (Int × Int)) (j : Nat) (h : j < xs.length * 2) : (flat xs)[j]? = some (flatK encE 2 xs.toArray)[j]! := by
  rw [get_flatK _ _ _ _ (by simpa using h)]
  have hk : j / 2 < xs.length := by omega
  have hg := flat_get xs (j / 2) hk
  have hx : xs.toArray[j / 2]! = xs[j / 2] := by rw [getElem!_pos xs.toArray (j / 2) (by simpa using hk)]; simp
  rw [hx]
  rcases Nat.mod_two_eq_zero_or_one j with h2 | h2
  · have e : j / 2 * 2 = j := by omega
    rw [e] at hg
    rw [hg.1, h2]; rfl
  · have e : j / 2 * 2 + 1 = j := by omega
    rw [e] at hg
    rw [hg.2, h2]; rfl
theorem holds_of_own {w : World} {B g cap : Nat} {xs : List (Int × Int)} (h : w.ownsRow B 35 2 (.slice (some ⟨g, 0, none⟩) xs.length cap) xs.length (flat xs)) : HoldsK encE 2 w g 0 xs.toArray := by
  intro j hj
  have hj' : j < xs.length * 2 := by simpa using hj
  rw [Nat.zero_add]
  exact ⟨by rw [h.cellAt j hj', flatK_eq xs j hj']; rfl, h.frozenAt j⟩
theorem cats_of_holds {w : World} {g : Nat} {zs : List (Int × Int)} (h : HoldsK encE 2 w g 0 zs.toArray) (hg : g < w.heap.size) : CatsAt w (some ⟨g, 0, none⟩) zs := by
  intro j hj
  refine ⟨g, 0, rfl, hg, ?_, ?_⟩
  · have h0 := (h (j * 2) (by simp; omega)).1
    have := flatK_eq zs (j * 2) (by omega)
    rw [(flat_get zs j hj).1] at this
    rw [h0, Option.some.inj this]; rfl
  · have h0 := (h (j * 2 + 1) (by simp; omega)).1
    have := flatK_eq zs (j * 2 + 1) (by omega)
    rw [(flat_get zs j hj).2] at this
    rw [Nat.add_assoc, h0, Option.some.inj this]; rfl
theorem below_sorted (w : World) (g n : Nat) (d : Array (Int × Int)) (os : Array Obj) (hg : g < w.heap.size) : Below g w (sortWorldK encE 2 w g 0 n d os) := by
  refine ⟨rfl, rfl, rfl, ?_, fun k hk => ?_⟩
  · simp [sortWorldK, putRowK, putRow, mapBlock, grow, Sort.ahead]
  · simp only [sortWorldK, putRowK, putRow, mapBlock, grow, Sort.ahead, Array.getElem?_append, Array.size_modify, Array.getElem?_modify]
    rw [if_pos (by omega), if_neg (by omega)]

def SortedC (zs : List (Int × Int)) : Prop := ∀ i j, (hij : i < j) → (hj : j < zs.length) → (zs[i]'(Nat.lt_trans hij hj)).1 ≤ zs[j].1

set_option maxHeartbeats 1000000 in
theorem SortFunc_any (B g cap : Nat) (xs : List (Int × Int)) (W : World) (hown : W.ownsRow B 35 2 (.slice (some ⟨g, 0, none⟩) xs.length cap) xs.length (flat xs)) (hsz : xs.length < 4611686018427387904) :
    Calls Tryd.prog 28 #[.slice (some ⟨g, 0, none⟩) xs.length cap, .func (.func 29) #[] #[]] W fun e w' => e = .returned (.tuple #[]) ∧ ∃ zs : List (Int × Int), zs.length = xs.length ∧ zs.Perm xs ∧ SortedC zs ∧ CatsAt w' (some ⟨g, 0, none⟩) zs ∧ Below g W w' := by
  have eg : ∀ args w, (callFunc 29 args).run Tryd.prog w = .ok (.enter 29 args) w := enters_of Tryd.func29 (by kernel_rfl) rfl
  have hg : g < W.heap.size := (hown.lt g rfl).2
  have hH := holds_of_own hown
  have hcon := AnyQ.slices_SortFunc Tryd.sortE 2 Tryd.isAgg35 Tryd.sizeOf35 encE (fun _ => rfl) (fun x v hv => by simp [encE] at hv; rcases hv with rfl | rfl <;> rfl) cfE swoE 29 #[] g 0 cap xs.toArray W eg (cmpLays g 0 xs.toArray.size W) hH hg (by simpa using hsz)
  change Calls Tryd.prog 28 _ _ _ at hcon
  rw [List.size_toArray] at hcon
  refine hcon.mono ?_
  rintro e w' ⟨rfl, d', n, os, ⟨hs1, hs2, hs3⟩, hso, rfl⟩
  have hl : d'.toList.length = xs.length := by simpa using hs1
  refine ⟨rfl, d'.toList, hl, ?_, ?_, ?_, below_sorted W g n d' os hg⟩
  · have e1 : (d'.extract 0 xs.length).toList = d'.toList := by rw [Array.toList_extract]; simp only [← hl, Array.length_toList, List.extract_eq_take_drop, Nat.sub_zero, List.drop_zero]; exact List.take_of_length_le (by simp)
    have e2 : (xs.toArray.extract 0 xs.length).toList = xs := by simp
    rw [e1, e2] at hs3
    exact hs3
  · intro i j hij hj
    have h := hso i j (Nat.zero_le _) hij (by omega)
    rw [ltE, getElem!_pos d' j (by simpa using hj), getElem!_pos d' i (by have : j < d'.size := (by simpa using hj); omega)] at h
    simp only [decide_eq_false_iff_not, Int.not_lt] at h
    simpa using h
  · have := holdsK_sortWorldK encE 2 W g 0 n xs.toArray d' os hg hH hs1
    exact cats_of_holds (zs := d'.toList) (by simpa using this) (lt_sortWorldK encE 2 W g 0 n d' os hg)

theorem own_below {w w' : World} {B : Nat} {e : TypeId} {size : Nat} {v : Value} {n : Nat} {xs : List Value} (h : w.ownsRow B e size v n xs) (hb : Below w.heap.size w w') : w'.ownsRow B e size v n xs := by
  refine h.kept (row := none) ⟨hb.os, hb.tape, hb.output, hb.size, fun k hk _ => hb.block k hk⟩ ?_
  cases hv : v.ownBlock with
  | none => exact .inl rfl
  | some g => exact .inr (by simp)
def Diff (xs : List (Int × Int)) : Prop := xs.Pairwise fun x y => x.1 ≠ y.1
theorem apart_of {xs zs : List (Int × Int)} (hp : zs.Perm xs) (hd : Diff xs) (hs : SortedC zs) : Apart zs := by
  intro k hk
  have hd' : Diff zs := (hp.pairwise_iff (fun h => Ne.symm h)).2 hd
  have h1 := hs k (k + 1) (Nat.lt_succ_self k) hk
  have h2 : zs[k].1 ≠ zs[k + 1].1 := List.pairwise_iff_getElem.1 hd' k (k + 1) _ _ (Nat.lt_succ_self k)
  omega

set_option maxRecDepth 100000 in
set_option maxHeartbeats 2000000 in
theorem Make_apart (d : Int) (b off cap : Nat) (xs : List (Int × Int)) (w : World) (hl : lev d = true) (hcan : (xs.any fun x => !can x) = false) (hdf : Diff xs) (hm : xs.length ≤ 16) (hc : CatsAt w (some ⟨b, off, none⟩) xs) :
    Calls Tryd.prog 10 #[.int .i64 d, .slice (some ⟨b, off, none⟩) xs.length cap] w fun e w' => ∃ v zs, zs.Perm xs ∧ SortedC zs ∧ e = .returned (.tuple #[.agg #[.int .i64 d, v], .int .i64 0]) ∧ w'.ownsRow w.heap.size 35 2 v (shortS d zs).length (flat (shortS d zs)) ∧ Below w.heap.size w w' := by
  have hW : Below w.heap.size w (w.alloc (.cells #[.int .i64 0, .slice none 0 0] 24)) := by go_grown
  have hml : xs.length ≤ maxLen := by unfold maxLen; omega
  have hC := ContainsFunc_can (some ⟨b, off, none⟩) cap xs _ hml (hc.below hW)
  rw [hcan] at hC
  go_enter Tryd.func10, Tryd.ntmps10
  go_wp2_with (first
    | (go_at_call 24; refine (isLevel_any _ _).mono ?_; rintro e w' ⟨rfl, rfl⟩)
    | (go_at_call 25; refine hC.mono ?_; rintro e w1 ⟨rfl, hb1⟩; refine Hid.out ?_))
  refine Lib.hid ?_
  have hB1 : Below w.heap.size w w1 := hW.trans (hb1.mono (by simp))
  have hz1 : w.heap.size + 1 ≤ w1.heap.size := by have := hb1.size; simpa using this
  have r0 : w1.cell? ⟨w.heap.size, 0, none⟩ = some (.int .i64 0) := (hb1.cell (p := ⟨w.heap.size, 0, none⟩) (by simp)).trans (by simp [go_sem])
  have r1 : w1.cell? ⟨w.heap.size, 1, none⟩ = some (.slice none 0 0) := (hb1.cell (p := ⟨w.heap.size, 1, none⟩) (by simp)).trans (by simp [go_sem])
  have rf : ∀ o, w1.frozen? ⟨w.heap.size, o, none⟩ = false := fun o => (hb1.frozen (p := ⟨w.heap.size, o, none⟩) (by simp)).trans (by simp [go_sem])
  have hCl := Clone_any b off cap xs w1 (by omega) (hc.below hB1)
  clear hC hcan hc
  go_wp2_with (go_at_call 27; refine hCl.mono ?_; rintro e w2 ⟨v, rfl, hown2, hb2, hnn⟩; refine Hid.out ?_)
  refine Lib.hid ?_
  rcases Joins.ownsRow_forms hown2 with ⟨rfl, _⟩ | ⟨g, cap2, rfl⟩
  · exact (hnn rfl).elim
  have hg := hown2.lt g rfl
  have hS := SortFunc_any _ g cap2 xs w2 hown2 (by omega)
  clear hCl hnn
  go_wp2_with (go_at_call 28; refine hS.mono ?_; rintro e w3 ⟨rfl, zs, hlen, hperm, hsort, hc3, hb3⟩; refine Hid.out ?_)
  refine Lib.hid ?_
  have hap := apart_of hperm hdf hsort
  have hCo := Compact_plain (some ⟨g, 0, none⟩) cap2 zs w3 (by unfold maxLen; omega) hc3 hap
  rw [hlen] at hCo
  have HL : Hid (zs.length = xs.length) := hlen
  clear hlen hS
  go_wp2_with (go_at_call 31; refine hCo.mono ?_; rintro e w4 ⟨rfl, hb4⟩; refine Hid.out ?_)
  refine Lib.hid ?_
  clear hCo
  have hc4 := hc3.below hb4
  have hB4 : Below (w.heap.size + 1) w1 w4 := (hb2.mono (by omega)).trans ((hb3.mono (by omega)).trans (hb4.mono (by have := hb3.size; omega)))
  have HP : Hid (zs.Perm xs ∧ SortedC zs) := ⟨hperm, hsort⟩
  clear hperm hsort
  go_wp2
  go_loopw [25] (fun i wr => ∃ k : Nat, k ≤ xs.length ∧ i = .int .i64 k ∧ Below w4.heap.size w4 wr) (fun i _ => xs.length - (intOf i).toNat)
  case atStart => exact ⟨0, Nat.zero_le _, rfl, Below.refl _ _⟩
  case round =>
    obtain ⟨k, hk, rfl, hb5⟩ := hrel
    by_cases hlt : k + 1 < xs.length
    · have hk1 : k < zs.length := by rw [HL.out]; omega
      have hk2 : k + 1 < zs.length := by rw [HL.out]; omega
      obtain ⟨b1, o1, he1, _, c0, _⟩ := hc4.get hb5 (Below.refl _ _) (Nat.le_refl _) k hk1
      obtain ⟨b2, o2, he2, _, c1, _⟩ := hc4.get hb5 (Below.refl _ _) (Nat.le_refl _) (k + 1) hk2
      simp only [Option.some.injEq, Addr.mk.injEq, and_true] at he1 he2
      obtain ⟨rfl, rfl⟩ := he1
      obtain ⟨rfl, rfl⟩ := he2
      rw [Nat.zero_add] at c0 c1
      have hne : (zs[k].1 == zs[k + 1].1) = false := beq_eq_false_iff_ne.2 (by have := hap k hk2; omega)
      have hki : (k : Int) < (xs.length : Int) - 1 := by omega
      have hkj : (k : Int) < (xs.length : Int) := by omega
      have hkl : (k : Int) + 1 < (xs.length : Int) := by omega
      have hkz : (0 : Int) ≤ (k : Int) + 1 := by omega
      clear hap hc4 hc3
      go_wp2
      go_quiet (fail)
      go_wp2
      go_roundw
      case rel => exact ⟨k + 1, by omega, by go_num, bdn hb5 _⟩
      case measure => simp [intOf]; omega
    · have hki : ¬ (k : Int) < (xs.length : Int) - 1 := by omega
      have hSh := short_any d (some ⟨g, 0, none⟩) cap2 zs wr (by rw [HL.out]; omega) (hc4.below hb5)
      rw [HL.out] at hSh
      have hB5 : Below (w.heap.size + 1) w1 wr := hB4.trans (hb5.mono (by have := hB4.size; omega))
      have hle16 : (shortS d zs).length ≤ 16 := by have := short_le d zs; rw [HL.out] at this; omega
      clear hap hc4 hc3
      go_wp2_with (go_at_call 33; refine hSh.mono ?_; rintro e w6 ⟨v6, rfl, hown6, hb6⟩; refine Hid.out ?_)
      refine Lib.hid ?_
      have hF := fit_any d v6 _ (shortS d zs) w6 hown6 hle16
      obtain ⟨p6, cap6, rfl, hc6, hcap6⟩ := own_out hown6
      go_wp2_with (go_at_call 32; refine hF.mono ?_; rintro e w7 ⟨rfl, hb7⟩; refine Hid.out ?_)
      refine Lib.hid ?_
      have hB7 : Below (w.heap.size + 1) w1 w7 := hB5.trans ((hb6.trans (hb7.mono hb6.size)).mono (by have := hB5.size; omega))
      have q0 := (hB7.cell (p := ⟨w.heap.size, 0, none⟩) (by simp)).trans r0
      have q1 := (hB7.cell (p := ⟨w.heap.size, 1, none⟩) (by simp)).trans r1
      have qf : ∀ o, w7.frozen? ⟨w.heap.size, o, none⟩ = false := fun o => (hB7.frozen (p := ⟨w.heap.size, o, none⟩) (by simp)).trans (rf o)
      have hown7 : w7.ownsRow (w.heap.size + 1) 35 2 (.slice p6 (shortS d zs).length cap6) (shortS d zs).length (flat (shortS d zs)) :=
        own_below (Joins.ownsRow_le hown6 (by have := hB5.size; omega)) hb7
      go_wp2
      refine bodyPost_ret (by simp [results, Tryd.results10, go_sem, q0, q1]; rfl) rfl ⟨_, zs, HP.out.1, HP.out.2, rfl, ?_, ?_⟩
      · exact Joins.ownsRow_le (ownsRow_setCell_below (ownsRow_setCell_below hown7 (by simp) _) (by simp) _) (by omega)
      · exact ((hB1.trans (hB7.mono (by omega))).setCell (p := ⟨w.heap.size, 0, none⟩) (Nat.le_refl _) _).setCell (p := ⟨w.heap.size, 1, none⟩) (Nat.le_refl _) _
end Go.Proofs.YtfpjeclbilhgdaaDoor
