/- Make of no entries at all. -/
import Derived.Test.YtnjmgholoigpkaaMake3
import Derived.Test.YtnjmgholoigpkaaMixed
import Derived.Test.YtnjmgholoigpkaaWith
import Derived.Test.YtnjmgholoigpkaaOwn0
/- What Make of the reference answers, of any entries. -/
namespace Go.Proofs.Ytnjmgholoigpkaa
open Go.RowKit Go.Sort

def clash (x : Int × Int) (ys : List (Int × Int)) : Bool := ys.any fun y => x.1 == y.1 && x.2 != y.2
theorem clash_snoc (x : Int × Int) (ys : List (Int × Int)) (j : Nat) (h : j < ys.length) : clash x (ys.take (j + 1)) = (clash x (ys.take j) || (x.1 == ys[j].1 && x.2 != ys[j].2)) := by
  unfold clash; rw [List.take_succ_eq_append_getElem h, List.any_append]; simp
def clT (xs : List (Int × Int)) : Nat → Bool
  | 0 => false
  | k + 1 => clT xs k || clash (zat xs k) (xs.take k)
theorem clT_mono {xs : List (Int × Int)} {k n : Nat} (h : clT xs k = true) (hk : k ≤ n) : clT xs n = true := by
  induction n with
  | zero => obtain rfl : k = 0 := by omega
            exact h
  | succ n ih =>
    rcases Nat.lt_or_ge n k with h1 | h1
    · obtain rfl : k = n + 1 := by omega
      exact h
    · simp [clT, ih h1]
theorem labs1m {W : World} {b : Nat} {A : Lab} (h : W.heap[b]? = some (.cells #[.int .i64 A.d, .slice A.p A.xs.length A.cap] 24 (0, 0)))
    (ha : CatsAt W A.p A.xs ∧ A.xs.length ≤ maxLen) : LabsAt W b [A] := by
  intro j hj
  simp only [List.length_cons, List.length_nil] at hj
  match j, hj with
  | 0, _ => exact ⟨by simp [World.cell?, h], by simp [World.cell?, h], ha⟩
def allLab (d : Int) (xs : List (Int × Int)) : Lab := ⟨d, none, 0, xs⟩
def rmakeS (d : Int) (xs : List (Int × Int)) : List (Int × Int) := shortS d (rowS (atS d xs) (namedS [allLab d xs]))
def rkD (d : Int) (xs : List (Int × Int)) : Int := if (xs.any fun x => !can x) = true then 0 else if clT xs xs.length = true then 0 else fitD d (rmakeS d xs)
def rkL (d : Int) (xs : List (Int × Int)) : List (Int × Int) := if (xs.any fun x => !can x) = true then [] else if clT xs xs.length = true then [] else fitL (rmakeS d xs)
def rkE (d : Int) (xs : List (Int × Int)) : Int := if (xs.any fun x => !can x) = true then 1 else if clT xs xs.length = true then 2 else fitE (rmakeS d xs)

end Go.Proofs.Ytnjmgholoigpkaa
/- Plain facts: what both Makes answer is one. -/
namespace Go.Proofs.Ytnjmgholoigpkaa
open Go.RowKit Go.Sort

def Clash (xs : List (Int × Int)) : Prop := ∃ x ∈ xs, ∃ y ∈ xs, x.1 = y.1 ∧ x.2 ≠ y.2
theorem clT_iff (xs : List (Int × Int)) (k : Nat) (hk : k ≤ xs.length) : clT xs k = true ↔ ∃ i, i < k ∧ ∃ j, j < i ∧ (zat xs i).1 = (zat xs j).1 ∧ (zat xs i).2 ≠ (zat xs j).2 := by
  induction k with
  | zero => simp [clT]
  | succ k ih =>
    have ih := ih (by omega)
    simp only [clT, Bool.or_eq_true, ih]
    constructor
    · rintro (⟨i, hi, j, hj, h⟩ | h)
      · exact ⟨i, by omega, j, hj, h⟩
      · unfold clash at h
        rw [List.any_eq_true] at h
        obtain ⟨y, hy, h⟩ := h
        obtain ⟨j, hj, e⟩ := List.mem_iff_getElem.1 hy
        have hj' : j < k := by rw [List.length_take] at hj; omega
        rw [List.getElem_take] at e
        refine ⟨k, by omega, j, hj', ?_⟩
        rw [zat_get xs j (by omega), e]
        simpa using h
    · rintro ⟨i, hi, j, hj, h1, h2⟩
      rcases Nat.lt_or_ge i k with hik | hik
      · exact .inl ⟨i, hik, j, hj, h1, h2⟩
      · obtain rfl : i = k := by omega
        refine .inr ?_
        unfold clash
        rw [List.any_eq_true]
        refine ⟨zat xs j, ?_, by simp [h1, h2]⟩
        rw [zat_get xs j (by omega)]
        exact List.mem_iff_getElem.2 ⟨j, by rw [List.length_take]; omega, by rw [List.getElem_take]⟩
theorem clT_clash (xs : List (Int × Int)) : clT xs xs.length = true ↔ Clash xs := by
  rw [clT_iff xs xs.length (Nat.le_refl _)]
  constructor
  · rintro ⟨i, hi, j, hj, h1, h2⟩
    rw [zat_get xs i hi, zat_get xs j (by omega)] at h1 h2
    exact ⟨xs[i], List.getElem_mem hi, xs[j], List.getElem_mem (by omega), h1, h2⟩
  · rintro ⟨x, hx, y, hy, h1, h2⟩
    obtain ⟨i, hi, rfl⟩ := List.mem_iff_getElem.1 hx
    obtain ⟨j, hj, rfl⟩ := List.mem_iff_getElem.1 hy
    rcases Nat.lt_trichotomy i j with h | h | h
    · exact ⟨j, hj, i, h, by rw [zat_get xs i hi, zat_get xs j hj]; exact h1.symm, by rw [zat_get xs i hi, zat_get xs j hj]; exact fun e => h2 e.symm⟩
    · subst h; exact absurd rfl h2
    · exact ⟨i, hi, j, h, by rw [zat_get xs i hi, zat_get xs j hj]; exact h1, by rw [zat_get xs i hi, zat_get xs j hj]; exact h2⟩

theorem ddT_sub (zs : List (Int × Int)) (k : Nat) (hk : k ≤ zs.length) : (ddT zs k).Sublist (zs.take k) := by
  induction k with
  | zero => simp [ddT]
  | succ k ih =>
    have ih := ih (by omega)
    rw [List.take_succ_eq_append_getElem (by omega : k < zs.length)]
    simp only [ddT]
    split
    · exact ih.trans (List.sublist_append_left _ _)
    · rw [zat_get zs k (by omega)]; exact ih.append (List.Sublist.refl _)
theorem ddT_mem (zs : List (Int × Int)) (k : Nat) (hk : k ≤ zs.length) (x : Int × Int) : x ∈ zs.take k → x ∈ ddT zs k := by
  induction k with
  | zero => simp
  | succ k ih =>
    have ih := ih (by omega)
    rw [List.take_succ_eq_append_getElem (by omega : k < zs.length)]
    simp only [ddT]
    intro h
    split
    · next hh =>
      rcases List.mem_append.1 h with h | h
      · exact ih h
      · refine ih ?_
        rw [List.mem_singleton.1 h, ← zat_get zs k (by omega), hh.2, zat_get zs (k - 1) (by omega)]
        exact List.mem_iff_getElem.2 ⟨k - 1, by rw [List.length_take]; omega, by rw [List.getElem_take]⟩
    · rcases List.mem_append.1 h with h | h
      · exact List.mem_append.2 (.inl (ih h))
      · rw [List.mem_singleton.1 h, ← zat_get zs k (by omega)]; exact List.mem_append.2 (.inr (List.mem_singleton.2 rfl))
def Adj (ds : List (Int × Int)) : Prop := ∀ i, (h : i + 1 < ds.length) → ds[i] ≠ ds[i + 1]
def LastIs (ds : List (Int × Int)) (z : Int × Int) : Prop := ∃ h : 0 < ds.length, ds[ds.length - 1] = z
theorem ddT_adj (zs : List (Int × Int)) (k : Nat) : Adj (ddT zs k) ∧ (k ≠ 0 → LastIs (ddT zs k) (zat zs (k - 1))) := by
  induction k with
  | zero => exact ⟨fun i h => by simp [ddT] at h, fun h => absurd rfl h⟩
  | succ k ih =>
    obtain ⟨h1, h2⟩ := ih
    by_cases hh : k ≠ 0 ∧ zat zs k = zat zs (k - 1)
    · have e : ddT zs (k + 1) = ddT zs k := by simp only [ddT]; rw [if_pos hh]
      rw [e]
      refine ⟨h1, fun _ => ?_⟩
      obtain ⟨hp, hl⟩ := h2 hh.1
      exact ⟨hp, by rw [hl, Nat.add_sub_cancel]; exact hh.2.symm⟩
    · have e : ddT zs (k + 1) = ddT zs k ++ [zat zs k] := by simp only [ddT]; rw [if_neg hh]
      rw [e]
      refine ⟨fun i h => ?_, fun _ => ⟨by simp, by simp⟩⟩
      rw [List.length_append, List.length_singleton] at h
      rcases Nat.lt_or_ge (i + 1) (ddT zs k).length with hi | hi
      · rw [List.getElem_append_left (by omega), List.getElem_append_left hi]; exact h1 i hi
      · have hi' : i + 1 = (ddT zs k).length := by omega
        have hk0 : k ≠ 0 := fun e0 => by subst e0; simp [ddT] at hi'
        obtain ⟨hp, hl⟩ := h2 hk0
        rw [List.getElem_append_left (by omega), List.getElem_append_right hi]
        have ei : (ddT zs k)[i]'(by omega) = zat zs (k - 1) := by rw [← hl]; congr 1; omega
        rw [ei]
        simp only [List.getElem_singleton]
        exact fun e2 => hh ⟨hk0, e2.symm⟩
theorem twin_false {ds : List (Int × Int)} (hs : ds.Pairwise fun x y => x.1 ≤ y.1) (h : twin ds = false) : ds.Pairwise fun x y => x.1 < y.1 := by
  induction ds with
  | nil => exact List.Pairwise.nil
  | cons x r ih =>
    cases r with
    | nil => exact List.pairwise_singleton _ _
    | cons y r =>
      simp only [twin, Bool.or_eq_false_iff, beq_eq_false_iff_ne] at h
      have hs' := List.pairwise_cons.1 hs
      have ih := ih hs'.2 h.2
      refine List.Pairwise.cons (fun z hz => ?_) ih
      have hxy := hs'.1 y (List.mem_cons_self ..)
      rcases List.mem_cons.1 hz with rfl | hz
      · omega
      · have := (List.pairwise_cons.1 ih).1 z hz; omega
theorem twin_true {ds : List (Int × Int)} (h : twin ds = true) : ∃ i, ∃ h : i + 1 < ds.length, ds[i].1 = ds[i + 1].1 := by
  induction ds with
  | nil => simp [twin] at h
  | cons x r ih =>
    cases r with
    | nil => simp [twin] at h
    | cons y r =>
      simp only [twin, Bool.or_eq_true, beq_iff_eq] at h
      rcases h with h | h
      · exact ⟨0, by simp, h⟩
      · obtain ⟨i, hi, e⟩ := ih h
        exact ⟨i + 1, by simpa using hi, by simpa using e⟩
theorem at_first {d c : Int} {xs : List (Int × Int)} (h : ∃ x ∈ xs, x.1 = c) : ∃ y ∈ xs, y.1 = c ∧ atS d xs c = y.2 := by
  induction xs with
  | nil => obtain ⟨x, hx, _⟩ := h; simp at hx
  | cons z zs ih =>
    simp only [atS]
    by_cases hz : z.1 = c
    · exact ⟨z, List.mem_cons_self .., hz, by rw [if_pos (by simpa using hz)]⟩
    · obtain ⟨x, hx, e⟩ := h
      rcases List.mem_cons.1 hx with rfl | hx
      · exact absurd e hz
      · obtain ⟨y, hy, e1, e2⟩ := ih ⟨x, hx, e⟩
        exact ⟨y, List.mem_cons_of_mem _ hy, e1, by rw [if_neg (by simpa using hz)]; exact e2⟩
theorem diff_inj {ds : List (Int × Int)} (hd : Diff ds) {x y : Int × Int} (hx : x ∈ ds) (hy : y ∈ ds) (h : x.1 = y.1) : x = y := by
  have h1 := at_mem (d := 0) hd hx
  have h2 := at_mem (d := 0) hd hy
  rw [h] at h1
  exact Prod.ext h (h1.symm.trans h2)

theorem makes_eq (d : Int) {xs zs : List (Int × Int)} (hcan : (xs.any fun x => !can x) = false) (hp : zs.Perm xs) (hs : SortedC zs) :
    mkD d (ddT zs zs.length) = rkD d xs ∧ mkL d (ddT zs zs.length) = rkL d xs ∧ mkE d (ddT zs zs.length) = rkE d xs := by
  have h0 : ∀ x ∈ xs, 0 < x.1 := fun x hx => by
    have := List.any_eq_false.1 hcan x hx
    simp [can, isCt] at this; omega
  have hsub : (ddT zs zs.length).Sublist zs := by have := ddT_sub zs zs.length (Nat.le_refl _); rwa [List.take_length] at this
  have hmem : ∀ x, x ∈ ddT zs zs.length ↔ x ∈ xs := fun x => ⟨fun h => hp.mem_iff.1 (hsub.subset h), fun h => ddT_mem zs zs.length (Nat.le_refl _) x (by rw [List.take_length]; exact hp.mem_iff.2 h)⟩
  have hadj := (ddT_adj zs zs.length).1
  have hsz : zs.Pairwise fun x y => x.1 ≤ y.1 := List.pairwise_iff_getElem.2 fun i j hi hj hij => hs i j hij hj
  have hsd : (ddT zs zs.length).Pairwise fun x y => x.1 ≤ y.1 := hsz.sublist hsub
  generalize ddT zs zs.length = ds at *
  unfold mkD mkL mkE rkD rkL rkE
  rw [hcan]
  by_cases ht : twin ds = true
  · have hc : clT xs xs.length = true := by
      rw [clT_clash]
      obtain ⟨i, hi, e⟩ := twin_true ht
      exact ⟨ds[i], (hmem _).1 (List.getElem_mem _), ds[i + 1], (hmem _).1 (List.getElem_mem _), e, fun e2 => hadj i hi (Prod.ext e e2)⟩
    simp [ht, hc]
  · have ht' : twin ds = false := by simpa using ht
    have hlt := twin_false hsd ht'
    have hr : Rise 0 ds := rise_of hlt (fun x hx => h0 x ((hmem x).1 hx))
    have hd := rise_diff hr
    have hc : clT xs xs.length = false := by
      rw [← Bool.not_eq_true, clT_clash]
      rintro ⟨x, hx, y, hy, e1, e2⟩
      exact e2 (congrArg Prod.snd (diff_inj hd ((hmem x).2 hx) ((hmem y).2 hy) e1))
    have hn : Rise 0 (rowS (atS d xs) (namedS [allLab d xs])) := rise_insAll (f := atS d xs) (xs := xs) h0 (cs := []) trivial
    have he : shortS d ds = rmakeS d xs := by
      refine same_of_at (d := d) (l := 0) (Rise.filter hr) (Rise.filter hn) (nodef_short _ _) (nodef_short _ _) (fun c _ => ?_)
      unfold rmakeS
      rw [at_short hr, at_short hn, at_row]
      by_cases hx : ∃ x ∈ xs, x.1 = c
      · obtain ⟨y, hy, e1, e2⟩ := at_first (d := d) hx
        have hin : c ∈ namedS [allLab d xs] := by rw [← e1]; exact insAll_new (xs := xs) [] hy
        rw [if_pos hin, e2, ← e1]
        exact at_mem hd ((hmem y).2 hy)
      · have o1 : atS d ds c = d := at_out fun x h e => hx ⟨x, (hmem x).1 h, e⟩
        have o2 : atS d xs c = d := at_out fun x h e => hx ⟨x, h, e⟩
        rw [o1, o2]; simp
    simp [ht', hc, he]
end Go.Proofs.Ytnjmgholoigpkaa
namespace Go.Proofs.Ytnjmgholoigpkaa
open Go.RowKit Go.Sort
set_option maxRecDepth 100000
theorem Clone_nil (w : World) : Calls Try.prog 72 #[.slice none 0 0] w fun e w' => e = .returned (.slice none 0 0) ∧ w' = w := by
  have hnil := fun (w : World) => Lib.run_eql_slice_nil (P := Try.prog) w 22 50 none 0 0 0 0 Try.underlying22
  go_enter Try.func72, Try.ntmps72
  go_wp2_with fail
  go_ret
  exact ⟨rfl, rfl⟩
theorem Compact_nil (w : World) : Calls Try.prog 76 #[.slice none 0 0] w fun e w' => e = .returned (.slice none 0 0) ∧ w' = w := by
  go_enter Try.func76, Try.ntmps76
  go_wp2_with fail
  go_ret
  exact ⟨rfl, rfl⟩
theorem insert_nil (fv : Value) (w : World) (hf : fv = .func (.func 74) #[] #[]) : Calls Try.prog 99 #[.slice none 0 0, .int .i64 0, .int .i64 0, fv] w fun e w' => e = .returned (.tuple #[]) ∧ w' = w := by
  subst hf
  go_enter Try.func99, Try.ntmps99
  go_wp2_with fail
  go_loopw [8] (fun i wr => i = .int .i64 1 ∧ w = wr) (fun _ _ => 0)
  case atStart => exact ⟨rfl, rfl⟩
  case round =>
    obtain ⟨rfl, rfl⟩ := hrel
    go_wp2
    go_end0
    exact ⟨rfl, rfl⟩
theorem ContainsF_nil (fv : Value) (w : World) (hf : fv = .func (.func 71) #[] #[]) : Calls Try.prog 70 #[.slice none 0 0, fv] w fun e w' => e = .returned (.bool false) ∧ w' = w := by
  subst hf
  have H : Calls Try.prog 90 #[.slice none 0 0, .func (.func 71) #[] #[]] w fun e w' => e = .returned (.int .i64 (-1)) ∧ w' = w := by
    go_enter Try.func90, Try.ntmps90
    go_wp2_with fail
    go_loopw [8] (fun i wr => i = .int .i64 0 ∧ w = wr) (fun _ _ => 0)
    case atStart => exact ⟨rfl, rfl⟩
    case round =>
      obtain ⟨rfl, rfl⟩ := hrel
      go_wp2
      go_ret
      exact ⟨rfl, rfl⟩
  go_enter Try.func70, Try.ntmps70
  go_wp2_with (go_at_call 90; refine H.mono ?_; rintro e w1 ⟨rfl, hw1⟩; rw [hw1]; clear hw1 w1)
  go_ret
  exact ⟨rfl, rfl⟩
theorem Len_nil (w : World) : Calls Try.prog 92 #[.int .u64 0] w fun e w' => e = .returned (.int .i64 0) ∧ w' = w := by
  have H : Calls Try.prog 108 #[.int .u64 0] w fun e w' => e = .returned (.int .i64 0) ∧ w' = w := by
    go_enter Try.func108, Try.ntmps108
    go_wp2_with fail
    go_ret
    exact ⟨by show Ending.returned (.int .i64 (wrap64 (wrap64 (Lib.len8 0)))) = _; rw [show wrap64 (wrap64 (Lib.len8 0)) = 0 from by kernel_rfl], rfl⟩
  go_enter Try.func92, Try.ntmps92
  go_wp2_with (go_at_call 108; refine H.mono ?_; rintro e w1 ⟨rfl, hw1⟩; rw [hw1]; clear hw1 w1)
  go_ret
  exact ⟨rfl, rfl⟩
theorem pdq_nil (fv : Value) (w : World) (hf : fv = .func (.func 74) #[] #[]) : Calls Try.prog 91 #[.slice none 0 0, .int .i64 0, .int .i64 0, .int .i64 0, fv] w fun e w' => e = .returned (.tuple #[]) ∧ w' = w := by
  subst hf
  have H := Lib.hid (insert_nil _ w rfl)
  go_enter Try.func91, Try.ntmps91
  go_wp2_with fail
  go_loopw [1, 2] (fun a b wr => a = .int .i64 0 ∧ b = .int .i64 0 ∧ w = wr) (fun _ _ _ => 0)
  case atStart => exact ⟨rfl, rfl, rfl⟩
  case round =>
    obtain ⟨rfl, rfl, rfl⟩ := hrel
    go_wp2_with (go_at_call 99; refine H.out.mono ?_; rintro e w1 ⟨rfl, hw1⟩; rw [hw1]; clear hw1 w1)
    (try simp only [Exit.inBlock, Exit.then])
    refine bodyPost_ret (results_none rfl _ _ _) rfl ?_
    exact ⟨rfl, rfl⟩
theorem Sort_nil (fv : Value) (w : World) (hf : fv = .func (.func 74) #[] #[]) : Calls Try.prog 73 #[.slice none 0 0, fv] w fun e w' => e = .returned (.tuple #[]) ∧ w' = w := by
  subst hf
  have H1 := Lib.hid (Len_nil w)
  have H2 := Lib.hid (pdq_nil _ w rfl)
  go_enter Try.func73, Try.ntmps73
  go_wp2_with (first
    | (go_at_call 92; refine H1.out.mono ?_; rintro e w1 ⟨rfl, hw1⟩; rw [hw1]; clear hw1 w1)
    | (go_at_call 91; refine H2.out.mono ?_; rintro e w1 ⟨rfl, hw1⟩; rw [hw1]; clear hw1 w1))
  go_end0
  exact ⟨rfl, rfl⟩
theorem Make_nil (d : Int) (w : World) (hl : lev d = true) : Calls Try.prog 48 #[.int .i64 d, .slice none 0 0] w fun e w' => ∃ x, e = .returned (.tuple #[x, .int .i64 0]) ∧ Below w.heap.size w w' ∧ RV w.heap.size (d, []) x w' := by
  have HL : Hid (∀ W, Calls Try.prog 69 #[.int .i64 d] W fun e w' => e = .returned (.bool true) ∧ w' = W) := fun W => by
    have := isLevel_any d W
    rw [hl] at this; exact this
  have HC : Hid (∀ W, _) := fun W => ContainsF_nil _ W rfl
  have HK : Hid (∀ W, _) := fun W => Clone_nil W
  have HS : Hid (∀ W, _) := fun W => Sort_nil _ W rfl
  have HP : Hid (∀ W, _) := fun W => Compact_nil W
  clear hl
  go_enter Try.func48, Try.ntmps48
  go_wp2_with (first
    | (go_at_call 69; refine (HL.out _).mono ?_; rintro e w1 ⟨rfl, hw1⟩; rw [hw1]; clear hw1 w1)
    | (go_at_call 70; refine (HC.out _).mono ?_; rintro e w1 ⟨rfl, hw1⟩; rw [hw1]; clear hw1 w1)
    | (go_at_call 72; refine (HK.out _).mono ?_; rintro e w1 ⟨rfl, hw1⟩; rw [hw1]; clear hw1 w1)
    | (go_at_call 73; refine (HS.out _).mono ?_; rintro e w1 ⟨rfl, hw1⟩; rw [hw1]; clear hw1 w1)
    | (go_at_call 76; refine (HP.out _).mono ?_; rintro e w1 ⟨rfl, hw1⟩; rw [hw1]; clear hw1 w1))
  go_loopw [25] (fun i wr => i = .int .i64 0 ∧ (w.alloc (.cells #[.int .i64 0, .slice none 0 0] 24)) = wr) (fun _ _ => 0)
  case atStart => exact ⟨rfl, rfl⟩
  case round =>
    obtain ⟨rfl, rfl⟩ := hrel
    have hA : Below w.heap.size w (w.alloc (.cells #[.int .i64 0, .slice none 0 0] 24)) := by go_grown
    have hSh := short_any d none 0 [] (w.alloc (.cells #[.int .i64 0, .slice none 0 0] 24)) (by simp) (fun j hj => absurd hj (by simp))
    go_wp2_with (go_at_call 78; refine hSh.mono ?_; rintro e w6 ⟨v6, rfl, hown6, hb6⟩; refine Hid.out ?_)
    refine Lib.hid ?_
    have hF := fit_any d v6 _ (shortS d []) w6 hown6 (by simp [shortS])
    have hR6 : Rw (w.heap.size + 1) w6 v6 [] := Rw.own (zs := shortS d []) hown6 (by simp)
    have hv : v6 = .slice none 0 0 ∨ ∃ g cap, v6 = .slice (some ⟨g, 0, none⟩) 0 cap := by
      rcases hown6.2 with ⟨h, _⟩ | ⟨g, cap, _, h, _⟩
      · exact .inl h
      · exact .inr ⟨g, cap, h⟩
    obtain ⟨p6, c6, rfl⟩ : ∃ p6 c6, v6 = .slice p6 0 c6 := by
      rcases hv with h | ⟨g, cap, h⟩
      · exact ⟨none, 0, h⟩
      · exact ⟨_, _, h⟩
    have HR6 := Lib.hid hR6
    clear hown6 hv hR6
    go_wp2_with (go_at_call 77; refine hF.mono ?_; rintro e w7 ⟨rfl, hb7⟩; refine Hid.out ?_)
    refine Lib.hid ?_
    have hB7 : Below (w.heap.size + 1) (w.alloc (.cells #[.int .i64 0, .slice none 0 0] 24)) w7 := by
      have h1 := hb6.trans (hb7.mono hb6.size)
      simpa using h1
    have q0 := (hB7.cell (p := ⟨w.heap.size, 0, none⟩) (by simp)).trans (show _ = some (.int .i64 0) from by simp [go_sem])
    have q1 := (hB7.cell (p := ⟨w.heap.size, 1, none⟩) (by simp)).trans (show _ = some (.slice none 0 0) from by simp [go_sem])
    have qf : ∀ o, w7.frozen? ⟨w.heap.size, o, none⟩ = false := fun o => (hB7.frozen (p := ⟨w.heap.size, o, none⟩) (by simp)).trans (by simp [go_sem])
    clear hF hSh
    go_wp2
    refine bodyPost_ret (by simp [results, Try.results48, go_sem, q0, q1]; rfl) rfl ⟨_, rfl, ?_, ?_⟩
    · exact ((hA.trans (hB7.mono (by omega))).setCell (p := ⟨w.heap.size, 0, none⟩) (Nat.le_refl _) _).setCell (p := ⟨w.heap.size, 1, none⟩) (Nat.le_refl _) _
    · exact ⟨_, rfl, Rw.mono (Rw.set (Rw.set (HR6.out.below hb7) (by simp) _) (by simp) _) (by omega)⟩
end Go.Proofs.Ytnjmgholoigpkaa
