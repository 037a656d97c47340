/- What Text of package label answers, for every label of at most 16 entries whose numbers AppendInt writes. -/
import Derived.Test.YtfpjeclbilhgdaaDoorBytes
import Derived.Lib.AppendStr
import Derived.Lib.Hide
namespace Go.Proofs.YtfpjeclbilhgdaaDoor
open Go.RowKit Go.Sort

def sgn (l : Int) : Int := if l = 0 then 42 else if l = 1 then 48 else if l = 2 then 49 else if l = 3 then 50 else if l = 4 then 51 else if l = 5 then 74 else 63
theorem sgn_mod (l : Int) : sgn l % 256 = sgn l := by unfold sgn; (repeat' split) <;> rfl
theorem sign_any (l : Int) (w : World) : Calls Tryd.prog 14 #[.int .i64 l] w fun e w' => e = .returned (.int .u8 (sgn l)) ∧ w' = w := by
  by_cases h : lev l = true
  · have : l = 0 ∨ l = 1 ∨ l = 2 ∨ l = 3 ∨ l = 4 ∨ l = 5 := by simp [lev] at h; omega
    rcases this with rfl | rfl | rfl | rfl | rfl | rfl
    all_goals
      go_enter Tryd.func14, Tryd.ntmps14
      go_wp2_with (go_at_call 24; refine (isLevel_any _ _).mono ?_; rintro e w' ⟨rfl, rfl⟩)
      go_ret
      exact ⟨rfl, rfl⟩
  · have h' : lev l = false := by simpa using h
    have hs : sgn l = 63 := by simp [lev] at h; unfold sgn; (repeat' split) <;> omega
    have HS : Hid (sgn l = 63) := hs
    clear hs
    go_enter Tryd.func14, Tryd.ntmps14
    go_wp2_with (go_at_call 24; refine (isLevel_any _ _).mono ?_; rintro e w' ⟨rfl, rfl⟩)
    go_ret
    exact ⟨by rw [HS.out]; rfl, rfl⟩

/-- AppendInt writes this number's digits behind a row of the call's own. -/
def AppOk (dig : Int → List Int) (c : Int) : Prop := ∀ (B n : Nat) (sv : Value) (ys : List Int) (w : World), w.ownsRow B 5 1 sv n (bcells ys) → B ≤ w.heap.size → n ≤ 1000 →
  Calls Tryd.prog 15 #[sv, .int .i64 c, .int .i64 10] w fun e w' => ∃ v', e = .returned v' ∧ w'.ownsRow B 5 1 v' (n + (dig c).length) (bcells (ys ++ dig c)) ∧ Below B w w' ∧ (∀ (j : Nat) (cs : Array Value) (t : TypeId) (fz : Nat × Nat), w.heap[j]? = some (.cells cs t fz) → t ≠ 5 → w'.heap[j]? = some (.cells cs t fz))

def dig1 (c : Int) : List Int := [48 + c]
set_option maxHeartbeats 400000 in
theorem small_any (c : Int) (h0 : 0 ≤ c) (h1 : c < 10) (w : World) : Calls Tryd.prog 74 #[.int .i64 c] w fun e w' => e = .returned (.string ⟨#[UInt8.ofNat (48 + c).toNat]⟩) ∧ w' = w := by
  have : c = 0 ∨ c = 1 ∨ c = 2 ∨ c = 3 ∨ c = 4 ∨ c = 5 ∨ c = 6 ∨ c = 7 ∨ c = 8 ∨ c = 9 := by omega
  rcases this with rfl | rfl | rfl | rfl | rfl | rfl | rfl | rfl | rfl | rfl
  all_goals
    go_enter Tryd.func74, Tryd.ntmps74
    go_wp2
    go_ret
    exact ⟨rfl, rfl⟩

theorem bcells_append (a b : List Int) : bcells (a ++ b) = bcells a ++ bcells b := by simp [bcells]
theorem strCells_one (c : Int) (h0 : 0 ≤ c) (h1 : c < 10) : Lib.strCells ⟨#[UInt8.ofNat (48 + c).toNat]⟩ = bcells (dig1 c) := by
  have : c = 0 ∨ c = 1 ∨ c = 2 ∨ c = 3 ∨ c = 4 ∨ c = 5 ∨ c = 6 ∨ c = 7 ∨ c = 8 ∨ c = 9 := by omega
  rcases this with rfl | rfl | rfl | rfl | rfl | rfl | rfl | rfl | rfl | rfl <;> rfl
theorem grown_types {w w' : World} {B n : Nat} {sv : Value} {xs : List Value} (hown : w.ownsRow B 5 1 sv n xs) (hg : w.grownBy w' sv.ownBlock) (hB : B ≤ w.heap.size) :
    Below B w w' ∧ (∀ (j : Nat) (cs : Array Value) (t : TypeId) (fz : Nat × Nat), w.heap[j]? = some (.cells cs t fz) → t ≠ 5 → w'.heap[j]? = some (.cells cs t fz)) :=
  ⟨(Below.refl B w).grown hg hB (fun k hk => (hown.lt k hk).1), fun j _ _ _ hj ht => (hg.block j (Array.getElem?_eq_some_iff.1 hj).1 (own_ne hown hj (fun e => ht e.symm))).trans hj⟩

set_option maxRecDepth 100000 in
set_option maxHeartbeats 1000000 in
theorem AppendInt_small (c : Int) (h0 : 0 ≤ c) (h1 : c < 10) : AppOk dig1 c := by
  intro B n sv ys w hown hB hn
  obtain ⟨i0, hi, hz0, hz1, hz2⟩ := info_parts info5
  have hs1 := strCells_one c h0 h1
  have HS : Hid (Lib.strCells ⟨#[UInt8.ofNat (48 + c).toNat]⟩ = bcells (dig1 c)) := hs1
  clear hs1
  have c1 : c < 100 := by omega
  have h63 : n + (⟨#[UInt8.ofNat (48 + c).toNat]⟩ : ByteArray).size ≤ maxLen := by show n + 1 ≤ maxLen; unfold maxLen; omega
  have hby : n + (⟨#[UInt8.ofNat (48 + c).toNat]⟩ : ByteArray).size ≤ 140737488355328 := by show n + 1 ≤ _; omega
  have hcc : c % 18446744073709551616 = c := by omega
  have HH : Hid (n + (⟨#[UInt8.ofNat (48 + c).toNat]⟩ : ByteArray).size ≤ maxLen ∧ n + (⟨#[UInt8.ofNat (48 + c).toNat]⟩ : ByteArray).size ≤ 140737488355328) := ⟨h63, hby⟩
  clear h63 hby
  go_enter Tryd.func15, Tryd.ntmps15
  go_wp2_with (first
    | (go_at_call 74; refine (small_any c h0 h1 _).mono ?_; rintro e w' ⟨rfl, rfl⟩)
    | (at_builtin; refine Lib.wpList_append_own_string _ rfl _ _ 39 9 rfl B 5 i0 Tryd.underlying39 Tryd.underlying9 hi hz0 hz1 hz2 _ _ _ rfl hown ⟨#[UInt8.ofNat (48 + c).toNat]⟩ rfl HH.out.1 HH.out.2 hB ?_; intro v' w3 hown' hgrow3 hnil3)
    | go_in)
  go_ret
  have hg := grown_types hown hgrow3 hB
  exact ⟨v', rfl, by rw [HS.out] at hown'; rw [bcells_append]; exact hown', hg.1, hg.2⟩

def entT (dig : Int → List Int) (x : Int × Int) : List Int := [32] ++ (dig x.1 ++ [58, sgn x.2])
def entsT (dig : Int → List Int) : List (Int × Int) → List Int
  | [] => []
  | x :: xs => entT dig x ++ entsT dig xs
def textP (dig : Int → List Int) (d : Int) (xs : List (Int × Int)) : List Int := [123, sgn d] ++ entsT dig xs
def textI (dig : Int → List Int) (d : Int) (xs : List (Int × Int)) : List Int := textP dig d xs ++ [125]
theorem entsT_append (dig : Int → List Int) (xs ys : List (Int × Int)) : entsT dig (xs ++ ys) = entsT dig xs ++ entsT dig ys := by
  induction xs with
  | nil => rfl
  | cons x xs ih => simp [entsT, ih]
theorem textP_snoc (dig : Int → List Int) (d : Int) (xs : List (Int × Int)) (k : Nat) (h : k < xs.length) : textP dig d (xs.take (k + 1)) = textP dig d (xs.take k) ++ [32] ++ dig xs[k].1 ++ [58, sgn xs[k].2] := by
  unfold textP
  rw [List.take_succ_eq_append_getElem h, entsT_append]
  simp [entsT, entT]
theorem entsT_len (dig : Int → List Int) (xs : List (Int × Int)) (h : ∀ x ∈ xs, (dig x.1).length ≤ 21) : (entsT dig xs).length ≤ xs.length * 24 := by
  induction xs with
  | nil => simp [entsT]
  | cons x xs ih =>
    have h1 := h x (by simp)
    have h2 := ih (fun y hy => h y (by simp [hy]))
    simp only [entsT, entT, List.length_append, List.length_cons, List.length_nil]; omega
theorem textP_len (dig : Int → List Int) (d : Int) (xs : List (Int × Int)) (k : Nat) (hk : k ≤ xs.length) (h : ∀ x ∈ xs, (dig x.1).length ≤ 21) : (textP dig d (xs.take k)).length ≤ 2 + k * 24 := by
  have := entsT_len dig (xs.take k) (fun x hx => h x (List.mem_of_mem_take hx))
  rw [List.length_take, Nat.min_eq_left hk] at this
  unfold textP
  rw [List.length_append]
  simp only [List.length_cons, List.length_nil]; omega

set_option maxRecDepth 100000 in
set_option maxHeartbeats 1000000 in
theorem Text_any (dig : Int → List Int) (d : Int) (p : Option Addr) (cap : Nat) (xs : List (Int × Int)) (w : World) (hn : xs.length ≤ 16) (hdig : ∀ x ∈ xs, (dig x.1).length ≤ 21) (happ : ∀ x ∈ xs, AppOk dig x.1) (hc : CatsAt w p xs) :
    Calls Tryd.prog 6 #[.agg #[.int .i64 d, .slice p xs.length cap]] w fun e w' => e = .returned (.string ⟨(toU (textI dig d xs)).toArray⟩) ∧ Below w.heap.size w w' := by
  obtain ⟨i0, hi, hz0, hz1, hz2⟩ := info_parts info5
  have hw1 : Below w.heap.size w ((w.alloc (.cells #[.int .i64 d, .slice p xs.length cap] 24)).alloc (.cells #[.int .u8 123, .int .u8 (sgn d)] 5)) := by go_grown
  have hl0 := World.ownsRow_lit (base := w.heap.size + 1) (e := 5) (size := 1) (w.alloc (.cells #[.int .i64 d, .slice p xs.length cap] 24)) #[.int .u8 123, .int .u8 (sgn d)] 2 (by simp) (by decide) rfl
  rw [World.size_alloc] at hl0
  have hb0 : bcells (textP dig d (xs.take 0)) = [.int .u8 123, .int .u8 (sgn d)] := by simp [textP, entsT, bcells, sgn_mod]
  have HB0 : Hid (bcells (textP dig d (xs.take 0)) = [.int .u8 123, .int .u8 (sgn d)]) := hb0
  have HA : Hid (∀ x ∈ xs, AppOk dig x.1) := happ
  have HD : Hid (∀ x ∈ xs, (dig x.1).length ≤ 21) := hdig
  clear hb0 happ hdig
  go_enter Tryd.func6, Tryd.ntmps6
  go_wp2_with (go_at_call 14; refine (sign_any _ _).mono ?_; rintro e w' ⟨rfl, rfl⟩)
  go_loopw [3, 13] (fun r i wr => ∃ k : Nat, k ≤ xs.length ∧ i = .int .i64 k ∧ wr.ownsRow (w.heap.size + 1) 5 1 r (textP dig d (xs.take k)).length (bcells (textP dig d (xs.take k))) ∧ Below w.heap.size w wr ∧ w.heap.size + 1 ≤ wr.heap.size) (fun _ i _ => xs.length - (intOf i).toNat)
  case atStart => exact ⟨0, Nat.zero_le _, rfl, by rw [HB0.out]; exact hl0, hw1, by simp⟩
  case round =>
    obtain ⟨k, hk, rfl, hown, hB, hz⟩ := hrel
    obtain ⟨W1, rfl⟩ : ∃ W1, W1 = wr := ⟨wr, rfl⟩
    have hlen := textP_len dig d xs k hk HD.out
    have hpos : 0 < (textP dig d (xs.take k)).length := by simp [textP]
    by_cases hlt : k < xs.length
    · obtain ⟨b, off, rfl, hbl, c0, c1⟩ := hc.get hB (Below.refl _ _) (Nat.le_refl _) k hlt
      clear hc hl0 HB0
      have HS : Hid (textP dig d (xs.take (k + 1)) = textP dig d (xs.take k) ++ [32] ++ dig xs[k].1 ++ [58, sgn xs[k].2]) := textP_snoc dig d xs k hlt
      have hdk : (dig xs[k].1).length ≤ 21 := HD.out xs[k] (List.getElem_mem hlt)
      have hAk : AppOk dig xs[k].1 := HA.out xs[k] (List.getElem_mem hlt)
      have h63 : (textP dig d (xs.take k)).length + 1 ≤ maxLen := by unfold maxLen; omega
      have hby : ((textP dig d (xs.take k)).length + 1) * 1 ≤ 140737488355328 := by omega
      have HO : Hid (∀ i u, [Value.int .u8 32][i]? = some u → ((W1.alloc (.cells #[.int .i64 xs[k].1, .int .i64 xs[k].2] 35)).alloc (.cells #[.int .u8 32] 5)).cell? ((⟨W1.heap.size + 1, 0, none⟩ : Addr).add i) = some u) := by
        have := cell_one_new (W1.alloc (.cells #[.int .i64 xs[k].1, .int .i64 xs[k].2] 35)) (.int .u8 32) 5
        rw [World.size_alloc] at this
        exact this
      have hownA := (hown.alloc (.cells #[.int .i64 xs[k].1, .int .i64 xs[k].2] 35)).alloc (.cells #[.int .u8 32] 5)
      have hbA : Below w.heap.size w ((W1.alloc (.cells #[.int .i64 xs[k].1, .int .i64 xs[k].2] 35)).alloc (.cells #[.int .u8 32] 5)) := by have := hB.size; go_grown
      have hEA : ((W1.alloc (.cells #[.int .i64 xs[k].1, .int .i64 xs[k].2] 35)).alloc (.cells #[.int .u8 32] 5)).heap[W1.heap.size]? = some (.cells #[.int .i64 xs[k].1, .int .i64 xs[k].2] 35 (0, 0)) := (Below.heap_alloc _ _ _ (by simp)).trans (World.alloc_heap_new _ _)
      have HE : Hid (((W1.alloc (.cells #[.int .i64 xs[k].1, .int .i64 xs[k].2] 35)).alloc (.cells #[.int .u8 32] 5)).heap[W1.heap.size]? = some (.cells #[.int .i64 xs[k].1, .int .i64 xs[k].2] 35 (0, 0))) := hEA
      clear hEA
      go_wp2_with (at_builtin; refine wpList_append_own _ rfl _ _ 39 rfl (w.heap.size + 1) 5 i0 (.int .u8 0) 1 1 Tryd.underlying39 hi hz0 hz1 hz2 rfl (by decide) _ _ _ rfl hownA ⟨W1.heap.size + 1, 0, none⟩ 1 1 [.int .u8 32] rfl rfl HO.out (fun x hx => by simp at hx; subst hx; rfl) h63 hby (by simp <;> omega) ?_; intro v2 w2 hown2 hgrow2 hnil2; refine Hid.out ?_)
      refine Lib.hid ?_
      have gt2 := grown_types hownA hgrow2 (by simp <;> omega)
      have hE2 := gt2.2 _ _ _ _ HE.out (by decide)
      have hB2 : Below w.heap.size w w2 := hbA.trans (gt2.1.mono (by omega))
      have hz2' : W1.heap.size + 2 ≤ w2.heap.size := by have := gt2.1.size; simp at this; omega
      have e0 : w2.cell? ⟨W1.heap.size, 0, none⟩ = some (.int .i64 xs[k].1) := by simp [World.cell?, hE2]
      have hown2' : w2.ownsRow (w.heap.size + 1) 5 1 v2 ((textP dig d (xs.take k)).length + 1) (bcells (textP dig d (xs.take k) ++ [32])) := by rw [bcells_snoc]; exact hown2
      have hC := hAk (w.heap.size + 1) ((textP dig d (xs.take k)).length + 1) v2 (textP dig d (xs.take k) ++ [32]) w2 hown2' (by omega) (by omega)
      have HE2 : Hid (w2.heap[W1.heap.size]? = some (.cells #[.int .i64 xs[k].1, .int .i64 xs[k].2] 35 (0, 0))) := hE2
      clear hE2 hown2 hown2' hownA HO hgrow2 hnil2 gt2 HE hbA hown
      go_wp2_with (go_at_call 15; refine hC.mono ?_; rintro e w3 ⟨v3, rfl, hown3, hb3, hty3⟩; refine Hid.out ?_)
      refine Lib.hid ?_
      clear hC
      have hE3 := hty3 _ _ _ _ HE2.out (by decide)
      have e1 : w3.cell? ⟨W1.heap.size, 1, none⟩ = some (.int .i64 xs[k].2) := by simp [World.cell?, hE3]
      have hB3 : Below w.heap.size w w3 := hB2.trans (hb3.mono (by omega))
      have hz3 : w2.heap.size ≤ w3.heap.size := hb3.size
      have h63' : (textP dig d (xs.take k)).length + 1 + (dig xs[k].1).length + 2 ≤ maxLen := by unfold maxLen; omega
      have hby' : ((textP dig d (xs.take k)).length + 1 + (dig xs[k].1).length + 2) * 1 ≤ 140737488355328 := by omega
      have HO3 : Hid (∀ i u, [Value.int .u8 58, Value.int .u8 (sgn xs[k].2)][i]? = some u → (w3.alloc (.cells #[.int .u8 58, .int .u8 (sgn xs[k].2)] 5)).cell? ((⟨w3.heap.size, 0, none⟩ : Addr).add i) = some u) := cell_two_new w3 (.int .u8 58) (.int .u8 (sgn xs[k].2)) 5
      have hownB := hown3.alloc (.cells #[.int .u8 58, .int .u8 (sgn xs[k].2)] 5)
      have hbB : Below w.heap.size w (w3.alloc (.cells #[.int .u8 58, .int .u8 (sgn xs[k].2)] 5)) := hB3.alloc hB3.size _
      clear hE3 hty3 hown3
      go_wp2_with (first
        | (go_at_call 14; refine (sign_any _ _).mono ?_; rintro e w' ⟨rfl, rfl⟩)
        | (at_builtin; refine wpList_append_own _ rfl _ _ 39 rfl (w.heap.size + 1) 5 i0 (.int .u8 0) 1 1 Tryd.underlying39 hi hz0 hz1 hz2 rfl (by decide) _ _ _ rfl hownB ⟨w'.heap.size, 0, none⟩ 2 2 [.int .u8 58, .int .u8 (sgn xs[k].2)] rfl rfl HO3.out (fun x hx => by simp at hx; rcases hx with rfl | rfl <;> rfl) h63' hby' (by simp <;> omega) ?_; intro v4 w4 hown4 hgrow4 hnil4))
      have gt4 := grown_types hownB hgrow4 (by simp <;> omega)
      go_roundw
      case rel =>
        refine ⟨k + 1, by omega, by go_num, ?_, hbB.trans (gt4.1.mono (by omega)), by have := gt4.1.size; simp at this; omega⟩
        have e4 : (textP dig d (xs.take k) ++ [32] ++ dig xs[k].1 ++ [58, sgn xs[k].2]).length = (textP dig d (xs.take k)).length + 1 + (dig xs[k].1).length + 2 := by simp; omega
        have e5 : bcells (textP dig d (xs.take k) ++ [32] ++ dig xs[k].1 ++ [58, sgn xs[k].2]) = bcells (textP dig d (xs.take k) ++ [32] ++ dig xs[k].1) ++ [.int .u8 58, .int .u8 (sgn xs[k].2)] := by rw [bcells_append]; simp [bcells, sgn_mod]
        rw [HS.out, e4, e5]
        exact hown4
      case measure => simp [intOf]; omega
    · have hk' : xs.take k = xs := List.take_of_length_le (by omega)
      rw [hk'] at hown hlen hpos
      clear hk' hc hl0 HB0
      have h63 : (textP dig d xs).length + 1 ≤ maxLen := by unfold maxLen; omega
      have hby : ((textP dig d xs).length + 1) * 1 ≤ 140737488355328 := by omega
      have HO : Hid (∀ i u, [Value.int .u8 125][i]? = some u → (W1.alloc (.cells #[.int .u8 125] 5)).cell? ((⟨W1.heap.size, 0, none⟩ : Addr).add i) = some u) := cell_one_new W1 (.int .u8 125) 5
      have hownA := hown.alloc (.cells #[.int .u8 125] 5)
      have hbA : Below w.heap.size w (W1.alloc (.cells #[.int .u8 125] 5)) := hB.alloc hB.size _
      go_wp2_with (at_builtin; refine wpList_append_own _ rfl _ _ 39 rfl (w.heap.size + 1) 5 i0 (.int .u8 0) 1 1 Tryd.underlying39 hi hz0 hz1 hz2 rfl (by decide) _ _ _ rfl hownA ⟨W1.heap.size, 0, none⟩ 1 1 [.int .u8 125] rfl rfl HO.out (fun x hx => by simp at hx; subst hx; rfl) h63 hby (by simp <;> omega) ?_; intro v2 w2 hown2 hgrow2 hnil2; refine Hid.out ?_)
      refine Lib.hid ?_
      have gt2 := grown_types hownA hgrow2 (by simp <;> omega)
      have hB2 : Below w.heap.size w w2 := hbA.trans (gt2.1.mono (by omega))
      have hown3 : w2.ownsRow (w.heap.size + 1) 5 1 v2 (textI dig d xs).length (bcells (textI dig d xs)) := by
        unfold textI; rw [bcells_snoc, List.length_append]; exact hown2
      have hlU : (toU (textI dig d xs)).length = (textI dig d xs).length := by simp [toU]
      have hpos2 : 0 < (textI dig d xs).length := by simp [textI]
      clear hown2 hgrow2 hnil2 hownA gt2 hbA hown
      rcases hown3.2 with ⟨-, h0⟩ | ⟨g, cap', cur, rfl, -, -, -, -, -, -⟩
      · omega
      · have hcv := run_convert_bytes_back (P := Tryd.prog) w2 39 9 5 ⟨g, 0, none⟩ cap' (toU (textI dig d xs)) Tryd.underlying39 Tryd.underlying5 Tryd.underlying9 (fun j hj => hown3.cells (g := g) rfl j _ (toU_get _ j hj))
        rw [hlU] at hcv
        clear hlU
        go_wp2
        go_ret
        exact ⟨rfl, hB2⟩
end Go.Proofs.YtfpjeclbilhgdaaDoor
