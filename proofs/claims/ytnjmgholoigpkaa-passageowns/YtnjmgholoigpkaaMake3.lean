/- What Make of package label answers, of any entries. -/
import Derived.Test.YtnjmgholoigpkaaMake2
import Derived.Test.YtnjmgholoigpkaaCompact
namespace Go.Proofs.Ytnjmgholoigpkaa
open Go.RowKit Go.Sort Go.Shelf

theorem rg_of_holds {w : World} {g : Nat} {zs : List (Int × Int)} (h : HoldsK encE 2 w g 0 zs.toArray) (hg : g < w.heap.size) : RG w g zs := by
  intro j hj
  obtain ⟨b, off, e, _, c0, c1⟩ := cats_of_holds h hg j hj
  cases e
  have f0 := (h (j * 2) (by simp; omega)).2
  have f1 := (h (j * 2 + 1) (by simp; omega)).2
  rw [Nat.zero_add] at c0 c1 f0 f1
  exact ⟨⟨c0, c1⟩, f0, f1⟩
set_option maxHeartbeats 1000000 in
theorem SortFunc_rg (B g cap : Nat) (xs : List (Int × Int)) (W : World) (hown : W.ownsRow B 50 2 (.slice (some ⟨g, 0, none⟩) xs.length cap) xs.length (flat xs)) (hsz : xs.length < 4611686018427387904) :
    Calls Try.prog 73 #[.slice (some ⟨g, 0, none⟩) xs.length cap, .func (.func 74) #[] #[]] W fun e w' => e = .returned (.tuple #[]) ∧ ∃ zs : List (Int × Int), zs.length = xs.length ∧ zs.Perm xs ∧ SortedC zs ∧ RG w' g zs ∧ Below g W w' ∧ g < w'.heap.size := by
  have eg : ∀ args w, (callFunc 74 args).run Try.prog w = .ok (.enter 74 args) w := enters_of Try.func74 (by kernel_rfl) rfl
  have hg : g < W.heap.size := (hown.lt g rfl).2
  have hH := holds_of_own hown
  have hcon := AnyQ.slices_SortFunc Try.sortE 2 Try.isAgg50 Try.sizeOf50 encE (fun _ => rfl) (fun x v hv => by simp [encE] at hv; rcases hv with rfl | rfl <;> rfl) cfE swoE 74 #[] g 0 cap xs.toArray W eg (cmpLays g 0 xs.toArray.size W) hH hg (by simpa using hsz)
  change Calls Try.prog 73 _ _ _ at hcon
  rw [List.size_toArray] at hcon
  refine hcon.mono ?_
  rintro e w' ⟨rfl, d', n, os, ⟨hs1, hs2, hs3⟩, hso, rfl⟩
  have hl : d'.toList.length = xs.length := by simpa using hs1
  refine ⟨rfl, d'.toList, hl, ?_, ?_, ?_, below_sorted W g n d' os hg, lt_sortWorldK encE 2 W g 0 n d' os hg⟩
  · have e1 : (d'.extract 0 xs.length).toList = d'.toList := by rw [Array.toList_extract]; simp only [← hl, Array.length_toList, List.extract_eq_take_drop, Nat.sub_zero, List.drop_zero]; exact List.take_of_length_le (by simp)
    have e2 : (xs.toArray.extract 0 xs.length).toList = xs := by simp
    rw [e1, e2] at hs3
    exact hs3
  · intro i j hij hj
    have h := hso i j (Nat.zero_le _) hij (by omega)
    rw [ltE, getElem!_pos d' j (by simpa using hj), getElem!_pos d' i (by have : j < d'.size := (by simpa using hj); omega)] at h
    simp only [decide_eq_false_iff_not, Int.not_lt] at h
    simpa using h
  · have := holdsK_sortWorldK encE 2 W g 0 n xs.toArray d' os hg hH hs1
    exact rg_of_holds (zs := d'.toList) (by simpa using this) (lt_sortWorldK encE 2 W g 0 n d' os hg)

def twin : List (Int × Int) → Bool
  | [] => false
  | [_] => false
  | x :: y :: r => x.1 == y.1 || twin (y :: r)
theorem twin_step (ds : List (Int × Int)) (k : Nat) (h : k + 1 < ds.length) : twin (ds.drop k) = (ds[k].1 == ds[k + 1].1 || twin (ds.drop (k + 1))) := by
  rw [List.drop_eq_getElem_cons (show k < ds.length by omega), List.drop_eq_getElem_cons h]; rfl
theorem twin_end (ds : List (Int × Int)) (k : Nat) (h : ds.length ≤ k + 1) : twin (ds.drop k) = false := by
  have hl : (ds.drop k).length ≤ 1 := by rw [List.length_drop]; omega
  match hd : ds.drop k, hl with
  | [], _ => rfl
  | [_], _ => rfl
  | _ :: _ :: _, hl => simp at hl
def mkD (d : Int) (ds : List (Int × Int)) : Int := if twin ds = true then 0 else fitD d (shortS d ds)
def mkL (d : Int) (ds : List (Int × Int)) : List (Int × Int) := if twin ds = true then [] else fitL (shortS d ds)
def mkE (d : Int) (ds : List (Int × Int)) : Int := if twin ds = true then 2 else fitE (shortS d ds)

set_option maxRecDepth 100000 in
set_option maxHeartbeats 2000000 in
theorem Make_gen (d : Int) (b off cap : Nat) (xs : List (Int × Int)) (w : World) (hl : lev d = true) (hcan : (xs.any fun x => !can x) = false) (hm : xs.length ≤ 8796093021952) (hc : CatsAt w (some ⟨b, off, none⟩) xs) :
    Calls Try.prog 48 #[.int .i64 d, .slice (some ⟨b, off, none⟩) xs.length cap] w fun e w' => ∃ v zs, zs.Perm xs ∧ SortedC zs ∧ e = .returned (.tuple #[.agg #[.int .i64 (mkD d (ddT zs zs.length)), v], .int .i64 (mkE d (ddT zs zs.length))]) ∧ Rw w.heap.size w' v (mkL d (ddT zs zs.length)) ∧ Below w.heap.size w w' := by
  have hW : Below w.heap.size w (w.alloc (.cells #[.int .i64 0, .slice none 0 0] 24)) := by go_grown
  have hml : xs.length ≤ maxLen := by unfold maxLen; omega
  have hC := ContainsFunc_can (some ⟨b, off, none⟩) cap xs _ hml (hc.below hW)
  rw [hcan] at hC
  go_enter Try.func48, Try.ntmps48
  go_wp2_with (first
    | (go_at_call 69; refine (isLevel_any _ _).mono ?_; rintro e w' ⟨rfl, rfl⟩)
    | (go_at_call 70; refine hC.mono ?_; rintro e w1 ⟨rfl, hb1⟩; refine Hid.out ?_))
  refine Lib.hid ?_
  have hB1 : Below w.heap.size w w1 := hW.trans (hb1.mono (by simp))
  have hz1 : w.heap.size + 1 ≤ w1.heap.size := by have := hb1.size; simpa using this
  have r0 : w1.cell? ⟨w.heap.size, 0, none⟩ = some (.int .i64 0) := (hb1.cell (p := ⟨w.heap.size, 0, none⟩) (by simp)).trans (by simp [go_sem])
  have r1 : w1.cell? ⟨w.heap.size, 1, none⟩ = some (.slice none 0 0) := (hb1.cell (p := ⟨w.heap.size, 1, none⟩) (by simp)).trans (by simp [go_sem])
  have rf : ∀ o, w1.frozen? ⟨w.heap.size, o, none⟩ = false := fun o => (hb1.frozen (p := ⟨w.heap.size, o, none⟩) (by simp)).trans (by simp [go_sem])
  have hCl := Clone_any b off cap xs w1 (by omega) (hc.below hB1)
  clear hC hcan hc
  go_wp2_with (go_at_call 72; refine hCl.mono ?_; rintro e w2 ⟨v, rfl, hown2, hb2, hnn⟩; refine Hid.out ?_)
  refine Lib.hid ?_
  rcases Joins.ownsRow_forms hown2 with ⟨rfl, _⟩ | ⟨g, cap2, rfl⟩
  · exact (hnn rfl).elim
  have hg := hown2.lt g rfl
  have hcap2 : xs.length ≤ cap2 := by
    rcases hown2.2 with ⟨h, _⟩ | ⟨_, _, _, h, _, _, h3, _⟩
    · cases h
    · cases h; exact h3
  have hS := SortFunc_rg _ g cap2 xs w2 hown2 (by omega)
  clear hCl hnn
  go_wp2_with (go_at_call 73; refine hS.mono ?_; rintro e w3 ⟨rfl, zs, hlen, hperm, hsort, hr3, hb3, hg3⟩; refine Hid.out ?_)
  refine Lib.hid ?_
  have hCo := Compact_any g cap2 zs w3 hg3 (by omega) (by omega) hr3
  rw [hlen] at hCo
  have hdl := ddT_len zs zs.length
  obtain ⟨ds, hds⟩ : ∃ ds, ds = ddT zs zs.length := ⟨_, rfl⟩
  have hds' : ddT zs xs.length = ds := by rw [hds, hlen]
  rw [hds'] at hCo
  rw [← hds] at hdl
  have HP : Hid (zs.Perm xs ∧ SortedC zs ∧ ddT zs zs.length = ds) := ⟨hperm, hsort, hds.symm⟩
  clear hS hperm hsort hds hds' hr3
  go_wp2_with (go_at_call 76; refine hCo.mono ?_; rintro e w4 ⟨rfl, hc4, hb4⟩; refine Hid.out ?_)
  refine Lib.hid ?_
  clear hCo
  have hB4 : Below (w.heap.size + 1) w1 w4 := (hb2.mono (by omega)).trans ((hb3.mono (by omega)).trans (hb4.mono (by omega)))
  have hdm : ds.length ≤ 8796093021952 := by omega
  clear hlen hdl
  go_wp2
  go_loopw [25] (fun i wr => ∃ k : Nat, k ≤ ds.length ∧ i = .int .i64 k ∧ twin ds = twin (ds.drop k) ∧ Below w4.heap.size w4 wr) (fun i _ => ds.length - (intOf i).toNat)
  case atStart => exact ⟨0, Nat.zero_le _, rfl, by simp, Below.refl _ _⟩
  case round =>
    obtain ⟨k, hk, rfl, ht, hb5⟩ := hrel
    have HT := Lib.hid ht
    clear ht
    have hB5 : Below (w.heap.size + 1) w1 wr := hB4.trans (hb5.mono (by have := hB4.size; omega))
    by_cases hlt : k + 1 < ds.length
    · obtain ⟨b1, o1, he1, _, c0, _⟩ := hc4.get hb5 (Below.refl _ _) (Nat.le_refl _) k (by omega)
      obtain ⟨b2, o2, he2, _, c1, _⟩ := hc4.get hb5 (Below.refl _ _) (Nat.le_refl _) (k + 1) hlt
      simp only [Option.some.injEq, Addr.mk.injEq, and_true] at he1 he2
      obtain ⟨rfl, rfl⟩ := he1
      obtain ⟨rfl, rfl⟩ := he2
      rw [Nat.zero_add] at c0 c1
      have hki : (k : Int) < (ds.length : Int) - 1 := by omega
      have hkj : (k : Int) < (ds.length : Int) := by omega
      have hkl : (k : Int) + 1 < (ds.length : Int) := by omega
      have hkz : (0 : Int) ≤ (k : Int) + 1 := by omega
      have HW := Lib.hid (twin_step ds k hlt)
      clear hc4
      by_cases hne : (ds[k].1 == ds[k + 1].1) = true
      · have HD : Hid (mkD d ds = 0 ∧ mkL d ds = [] ∧ mkE d ds = 2) := by
          have htw : twin ds = true := by rw [HT.out, HW.out, hne]; rfl
          simp [Hid, mkD, mkL, mkE, htw]
        have q0 := (hB5.cell (p := ⟨w.heap.size, 0, none⟩) (by simp)).trans r0
        have q1 := (hB5.cell (p := ⟨w.heap.size, 1, none⟩) (by simp)).trans r1
        have qf : ∀ o, wr.frozen? ⟨w.heap.size, o, none⟩ = false := fun o => (hB5.frozen (p := ⟨w.heap.size, o, none⟩) (by simp)).trans (rf o)
        go_wp2
        go_quiet (fail)
        go_wp2
        refine bodyPost_ret (by simp [results, Try.results48, go_sem, q0, q1]; rfl) rfl ⟨.slice none 0 0, zs, HP.out.1, HP.out.2.1, ?_, ?_, ?_⟩
        · rw [HP.out.2.2, HD.out.1, HD.out.2.2]
        · rw [HP.out.2.2, HD.out.2.1]; exact .inl ⟨rfl, rfl⟩
        · exact ((bdn (hB1.trans (hB5.mono (by omega))) _).setCell (p := ⟨w.heap.size, 0, none⟩) (Nat.le_refl _) _).setCell (p := ⟨w.heap.size, 1, none⟩) (Nat.le_refl _) _
      · have hne' : (ds[k].1 == ds[k + 1].1) = false := by simpa using hne
        go_wp2
        go_quiet (fail)
        go_wp2
        go_roundw
        case rel => exact ⟨k + 1, by omega, by go_num, by rw [HT.out, HW.out, hne']; rfl, bdn hb5 _⟩
        case measure => simp [intOf]; omega
    · have hki : ¬ (k : Int) < (ds.length : Int) - 1 := by omega
      have HD : Hid (mkD d ds = fitD d (shortS d ds) ∧ mkL d ds = fitL (shortS d ds) ∧ mkE d ds = fitE (shortS d ds)) := by
        have htw : twin ds = false := by rw [HT.out]; exact twin_end ds k (by omega)
        simp [Hid, mkD, mkL, mkE, htw]
      have hSh := short_any d (some ⟨g, 0, none⟩) cap2 ds wr (by omega) (hc4.below hb5)
      clear hc4
      go_wp2_with (go_at_call 78; refine hSh.mono ?_; rintro e w6 ⟨v6, rfl, hown6, hb6⟩; refine Hid.out ?_)
      refine Lib.hid ?_
      have hF := Fit_any d v6 _ (shortS d ds) w6 hown6
      obtain ⟨p6, cap6, rfl, hc6, hcap6⟩ := own_out hown6
      clear hown6 hc6
      go_wp2_with (go_at_call 77; refine hF.mono ?_; rintro e w7 ⟨v7, rfl, hown7, hb7⟩; refine Hid.out ?_)
      refine Lib.hid ?_
      obtain ⟨p7, cap7, rfl, hc7, hcap7⟩ := own_out hown7
      have hB7 : Below (w.heap.size + 1) w1 w7 := hB5.trans ((hb6.trans (hb7.mono hb6.size)).mono (by have := hB5.size; omega))
      have q0 := (hB7.cell (p := ⟨w.heap.size, 0, none⟩) (by simp)).trans r0
      have q1 := (hB7.cell (p := ⟨w.heap.size, 1, none⟩) (by simp)).trans r1
      have qf : ∀ o, w7.frozen? ⟨w.heap.size, o, none⟩ = false := fun o => (hB7.frozen (p := ⟨w.heap.size, o, none⟩) (by simp)).trans (rf o)
      clear hc7 hF hSh
      go_wp2
      refine bodyPost_ret (by simp [results, Try.results48, go_sem, q0, q1]; rfl) rfl ⟨.slice p7 (fitL (shortS d ds)).length cap7, zs, HP.out.1, HP.out.2.1, ?_, ?_, ?_⟩
      · rw [HP.out.2.2, HD.out.1, HD.out.2.2]
      · rw [HP.out.2.2, HD.out.2.1]
        exact Rw.mono (Rw.set (Rw.set (Rw.own (Joins.ownsRow_le hown7 (show w.heap.size + 1 ≤ wr.heap.size by have := hB5.size; omega)) (Nat.le_refl _)) (by simp) _) (by simp) _) (by omega)
      · exact ((hB1.trans (hB7.mono (by omega))).setCell (p := ⟨w.heap.size, 0, none⟩) (Nat.le_refl _) _).setCell (p := ⟨w.heap.size, 1, none⟩) (Nat.le_refl _) _
theorem Make_nolev (d : Int) (v : Value) (w : World) (hl : lev d = false) :
    Calls Try.prog 48 #[.int .i64 d, v] w fun e w' => e = .returned (.tuple #[.agg #[.int .i64 0, .slice none 0 0], .int .i64 1]) ∧ Below w.heap.size w w' := by
  go_enter Try.func48, Try.ntmps48
  go_wp2_with (first
    | (go_at_call 69; refine (isLevel_any _ _).mono ?_; rintro e w' ⟨rfl, rfl⟩))
  refine bodyPost_ret (by simp [results, Try.results48, go_sem]) rfl ⟨rfl, by go_grown⟩
end Go.Proofs.Ytnjmgholoigpkaa
