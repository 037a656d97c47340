/- What the reference of layer 3 answers: Fits, Size, Read, Write, Resize. -/
import Derived.Test.YtpedinpjdepjdaaOver
import Derived.Lib.ConvBytes
import Derived.Laws.AppendOwnNone
import Derived.Shelf.SlSortCmp.QuietGrown
namespace Go.Proofs.Ytpedinpjdepjdaa
open Go.RowKit
/-- A slice of bytes, as it lies in memory. -/
def ByAt (w : World) (p : Option Addr) (d : List UInt8) : Prop :=
  ∀ j, (h : j < d.length) → ∃ b off, p = some ⟨b, off, none⟩ ∧ b < w.heap.size ∧ w.cell? ⟨b, off + j, none⟩ = some (.int .u8 (d[j].toNat : Int))
theorem ByAt.below {w w' : World} {p : Option Addr} {d : List UInt8} (h : ByAt w p d) (hb : Below w.heap.size w w') : ByAt w' p d := fun j hj => by
  obtain ⟨b, off, hp, hbl, hc⟩ := h j hj
  exact ⟨b, off, hp, Nat.lt_of_lt_of_le hbl hb.size, (hb.cell (p := ⟨b, off + j, none⟩) hbl).trans hc⟩
def fitR (d : Nat) (a n : Int) : Bool := decide (0 ≤ a) && decide (0 ≤ n) && decide (a ≤ d) && decide (n ≤ d - a)
theorem Fits_any (p : Option Addr) (cap : Nat) (d : Nat) (a n : Int) (w : World) (hd : d ≤ 4096) : Calls Try.prog 37 #[.slice p d cap, .int .i64 a, .int .i64 n] w fun e w' => e = .returned (.bool (fitR d a n)) ∧ w' = w := by
  by_cases h1 : 0 ≤ a
  · by_cases h2 : 0 ≤ n
    · by_cases h3 : a ≤ d
      · by_cases h4 : n ≤ d - a
        · go_enter Try.func37, Try.ntmps37
          go_wp2
          go_ret
          exact ⟨by simp [fitR, h1, h2, h3, h4], rfl⟩
        · go_enter Try.func37, Try.ntmps37
          go_wp2
          go_ret
          exact ⟨by simp [fitR, h1, h2, h3, h4], rfl⟩
      · go_enter Try.func37, Try.ntmps37
        go_wp2
        go_ret
        exact ⟨by simp [fitR]; omega, rfl⟩
    · go_enter Try.func37, Try.ntmps37
      go_wp2
      go_ret
      exact ⟨by simp [fitR]; omega, rfl⟩
  · go_enter Try.func37, Try.ntmps37
    go_wp2
    go_ret
    exact ⟨by simp [fitR]; omega, rfl⟩
def sizeR (n : Int) : Bool := decide (0 ≤ n) && decide (n ≤ 4096)
theorem Size_any (n : Int) (w : World) : Calls Try.prog 7 #[.int .i64 n] w fun e w' => e = .returned (.bool (sizeR n)) ∧ w' = w := by
  by_cases h1 : 0 ≤ n <;> by_cases h2 : n ≤ 4096 <;>
  · go_enter Try.func7, Try.ntmps7
    go_wp2
    go_ret
    exact ⟨by simp [sizeR, h1, h2], rfl⟩
/-- The bytes made n. -/
def rsz (d : List UInt8) (n : Nat) : List UInt8 := (List.range n).map fun j => d.getD j 0
def rszK (d : List UInt8) (n k : Nat) : List UInt8 := (List.range n).map fun j => if j < k then d.getD j 0 else 0
theorem u8s_len (d : List UInt8) : (u8s d).length = d.length := by simp [u8s]
theorem rszK_len (d : List UInt8) (n k : Nat) : (rszK d n k).length = n := by simp [rszK]
theorem rszK_set (d : List UInt8) (n k : Nat) (hd : k < d.length) : (u8s (rszK d n k)).set k (.int .u8 (d[k].toNat : Int)) = u8s (rszK d n (k + 1)) := by
  unfold u8s rszK
  rw [List.map_map, List.map_map]
  apply List.ext_getElem
  · simp
  · intro j h1 h2
    simp only [List.length_set, List.length_map, List.length_range] at h1
    rw [List.getElem_set]
    by_cases hjk : k = j
    · subst hjk
      simp [List.getD_eq_getElem?_getD, List.getElem?_eq_getElem hd]
    · have e : (j < k + 1) = (j < k) := by apply propext; omega
      simp [hjk, e]
theorem rszK_end (d : List UInt8) (n k : Nat) (h : n ≤ k ∨ d.length ≤ k) : rszK d n k = rsz d n := by
  unfold rszK rsz
  apply List.map_congr_left
  intro j hj
  have := List.mem_range.1 hj
  by_cases hjk : j < k
  · simp [hjk]
  · rw [if_neg hjk]
    rcases h with h | h
    · omega
    · rw [List.getD_eq_getElem?_getD, List.getElem?_eq_none (by omega)]; rfl
theorem byteInfoR : (Try.prog.info? 5).map (fun i => (i.zero, i.size, i.bytes)) = some (some (.int .u8 0), 1, 1) := by kernel_rfl
theorem info_parts' {t : TypeId} {z : Value} {s b : Nat} (h : (Try.prog.info? t).map (fun i => (i.zero, i.size, i.bytes)) = some (some z, s, b)) : ∃ i, Try.prog.info? t = some i ∧ i.zero = some z ∧ i.size = s ∧ i.bytes = b := by
  obtain ⟨i, h1, h2⟩ := Option.map_eq_some_iff.1 h
  simp only [Prod.mk.injEq] at h2
  exact ⟨i, h1, h2.1, h2.2.1, h2.2.2⟩
theorem made_zero (d : List UInt8) (N : Nat) : (madeCells (Value.int .u8 0).cells (N * 1)).toList = u8s (rszK d N 0) := by
  unfold madeCells u8s rszK
  apply List.ext_getElem
  · simp [Value.cells]
  · intro j h1 h2
    simp [Value.cells, Nat.mod_one]
set_option maxRecDepth 100000 in
set_option maxHeartbeats 2000000 in
theorem refResize_any (base : Nat) (v : Value) (d : List UInt8) (n : Int) (w : World) (hd : d.length ≤ 4096) (hown : w.ownsRow base 5 1 v d.length (u8s d)) :
    Calls Try.prog 21 #[v, .int .i64 n] w fun e w' => (sizeR n = false ∧ e = .returned (.tuple #[v, .int .i64 1]) ∧ w' = w) ∨ (sizeR n = true ∧ ∃ v', e = .returned (.tuple #[v', .int .i64 0]) ∧ w'.ownsRow w.heap.size 5 1 v' (rsz d n.toNat).length (u8s (rsz d n.toNat)) ∧ Below w.heap.size w w') := by
  by_cases hs : sizeR n = true
  · obtain ⟨i0, hi, hz0, hz1, hz2⟩ := info_parts' byteInfoR
    obtain ⟨N, rfl, hN⟩ : ∃ N : Nat, n = (N : Int) ∧ N ≤ 4096 := by
      simp only [sizeR, Bool.and_eq_true, decide_eq_true_eq] at hs
      exact ⟨n.toNat, by omega, by omega⟩
    obtain ⟨w5, hmk, how5, hgr5⟩ := run_make_full (P := Try.prog) w w.heap.size 29 5 i0 (.int .u8 0) 1 Try.underlying29 hi hz0 hz1 .i64 .i64 N (by rw [hz2]; omega) (by unfold maxLen; omega) (Nat.le_refl _)
    have hz : (madeCells (Value.int .u8 0).cells (N * 1)).toList = u8s (rszK d N 0) := made_zero d N
    rw [hz] at how5
    have hb5 : Below w.heap.size w w5 := ⟨hgr5.os, hgr5.tape, hgr5.output, hgr5.size, fun k hk => hgr5.block k hk (by simp)⟩
    obtain ⟨sp, cp, rfl⟩ : ∃ sp cp, v = .slice sp d.length cp := by
      rcases hown.2 with ⟨h, h0⟩ | ⟨g, cp, _, h, _⟩
      · exact ⟨none, 0, by rw [h, h0]⟩
      · exact ⟨_, _, h⟩
    have HOwn := Lib.hid hown
    have HOw5 := Lib.hid how5
    have hSz := Size_any (N : Int)
    rw [hs] at hSz
    have HSz := Lib.hid hSz
    have HSS := Lib.hid hs
    clear hown how5 hz hgr5 hSz hs
    go_enter Try.func21, Try.ntmps21
    go_wp2_with (go_at_call 7; refine (HSz.out _).mono ?_; rintro e w1 ⟨rfl, hw1⟩; rw [hw1]; clear hw1 w1)
    go_loopw [7] (fun iv wr => ∃ k : Nat, iv = .int .i64 k ∧ k ≤ N ∧ k ≤ d.length ∧ wr.ownsRow w.heap.size 5 1 (.slice (some ⟨w.heap.size, 0, none⟩) N N) N (u8s (rszK d N k)) ∧ Below w.heap.size w wr) (fun iv _ => N - (intOf iv).toNat)
    case atStart => exact ⟨0, rfl, Nat.zero_le _, Nat.zero_le _, HOw5.out, hb5⟩
    case round =>
      obtain ⟨k, rfl, hkN, hkd, how, hbr⟩ := hrel
      have hzr := hbr.size
      by_cases h1 : k < N
      · have h1i : (k : Int) < (N : Int) := by omega
        by_cases h2 : k < d.length
        · have h2i : (k : Int) < (d.length : Int) := by omega
          obtain ⟨g, rfl⟩ : ∃ g, sp = some ⟨g, 0, none⟩ := by
            rcases HOwn.out.2 with ⟨h, h0⟩ | ⟨g, cp', _, h, _⟩
            · omega
            · simp only [Value.slice.injEq] at h; exact ⟨g, h.1⟩
          have hgl := HOwn.out.lt g rfl
          have c0 : wr.cell? ⟨g, k, none⟩ = some (.int .u8 (d[k].toNat : Int)) := by
            rw [hbr.cell (p := ⟨g, k, none⟩) hgl.2, HOwn.out.cellAt k (by omega)]
            unfold u8s; rw [List.getElem?_map, List.getElem?_eq_getElem h2]; rfl
          have hgr : g < wr.heap.size := by omega
          have hur : w.heap.size < wr.heap.size := (how.lt _ rfl).2
          obtain ⟨u, c1⟩ : ∃ u, wr.cell? ⟨w.heap.size, k, none⟩ = some u := by
            rw [how.cellAt k (by omega), List.getElem?_eq_getElem (by rw [u8s_len, rszK_len]; exact h1)]
            exact ⟨_, rfl⟩
          have f1 : wr.frozen? ⟨w.heap.size, k, none⟩ = false := how.frozenAt _
          obtain ⟨s1, s2⟩ := how.stored k (.int .u8 (d[k].toNat : Int))
          rw [rszK_set d N k h2] at s1
          have HS1 := Lib.hid s1
          clear how s1 s2
          go_wp2
          go_roundw
          case rel => exact ⟨k + 1, by go_num, by omega, by omega, HS1.out, hbr.setCell (p := ⟨w.heap.size, k, none⟩) (Nat.le_refl _) _⟩
          case measure => simp [intOf]; omega
        · have h2i : ¬ (k : Int) < (d.length : Int) := by omega
          go_wp2
          go_ret2
          refine .inr ⟨HSS.out, _, rfl, ?_, hbr⟩
          rw [rszK_end d N k (.inr (by omega))] at how
          have e : (rsz d N).length = N := by simp [rsz]
          rw [e]; exact how
      · have h1i : ¬ (k : Int) < (N : Int) := by omega
        go_wp2
        go_ret2
        refine .inr ⟨HSS.out, _, rfl, ?_, hbr⟩
        rw [rszK_end d N k (.inl (by omega))] at how
        have e : (rsz d N).length = N := by simp [rsz]
        rw [e]; exact how
  · have hs' : sizeR n = false := by simpa using hs
    go_enter Try.func21, Try.ntmps21
    go_wp2_with (go_at_call 7; refine (Size_any n _).mono ?_; rintro e w1 ⟨rfl, hw1⟩; rw [hw1]; clear hw1 w1)
    go_ret2
    exact .inl ⟨hs', rfl, rfl⟩
theorem u8s_one (d : List UInt8) : ∀ u ∈ u8s d, u.oneCell' = true := fun u hu => by
  obtain ⟨b, _, rfl⟩ := List.mem_map.1 hu; rfl
theorem app_by {W : World} {ops : Array Oper} {rest : List Oper} {o : Oper} {a : Act} {Q : Exit → Act → World → Prop} (hgd : o.guard = none) (s x : Operand)
    (ho : o.op = .call { callee := .builtin .append, args := #[s, x], argTypes := #[29, 29] }) (base base2 : Nat) (v sv : Value) (xs ys : List UInt8) (hs : a.eval s = v) (hown : W.ownsRow base 5 1 v xs.length (u8s xs)) (hb : base ≤ W.heap.size) (hn : xs.length + ys.length < 1000000)
    (hx : a.eval x = sv) (hsrc : W.ownsRow base2 5 1 sv ys.length (u8s ys))
    (h : ∀ v' w', w'.ownsRow base 5 1 v' (xs ++ ys).length (u8s (xs ++ ys)) → Below base W w' → wpList Try.prog ops Q rest (a.put o.dst v') w') : wpList Try.prog ops Q (o :: rest) a W := by
  obtain ⟨i0, hi, hz0, hz1, hz2⟩ := info_parts' byteInfoR
  have hc := fun g hg => hsrc.cells (g := g) hg
  rcases hsrc.2 with ⟨rfl, h0⟩ | ⟨g, cap, cur, rfl, _⟩
  · have := List.length_eq_zero_iff.1 h0
    subst this
    refine wpList_append_own_none hgd s x 29 ho base 5 i0 1 Try.underlying29 hi v xs.length (u8s xs) hs hown hx (h v W ?_ (Below.refl _ _))
    simpa using hown
  · refine wpList_append_own _ hgd s x 29 ho base 5 i0 (.int .u8 0) 1 1 Try.underlying29 hi hz0 hz1 hz2 rfl (by decide) v xs.length (u8s xs) hs hown ⟨g, 0, none⟩ ys.length cap (u8s ys) hx (by rw [u8s_len]; omega) (hc g rfl) (u8s_one _) (by unfold maxLen; omega) (by omega) hb ?_
    intro v' w' h1 h2 _
    refine h v' w' ?_ (Below.grown (Below.refl _ _) h2 hb (fun j hj => (hown.lt j hj).1))
    rw [List.length_append, show u8s (xs ++ ys) = u8s xs ++ u8s ys from by simp [u8s]]
    exact h1
theorem row_below {w w' : World} {b e size n : Nat} {v : Value} {xs : List Value} (h : w.ownsRow b e size v n xs) (hb : Below w.heap.size w w') : w'.ownsRow b e size v n xs := by
  refine ⟨h.1, ?_⟩
  have hlt := h.lt
  rcases h.2 with h | ⟨g, cap, cur, h1, h2, h3, h4⟩
  · exact .inl h
  · subst h1
    exact .inr ⟨g, cap, cur, rfl, h2, (hb.block g (hlt g rfl).2).trans h3, h4⟩
theorem over_set (d s : List UInt8) (a k : Nat) (hk : k < s.length) : (u8s (over d a (s.take k))).set (a + k) (.int .u8 (s[k].toNat : Int)) = u8s (over d a (s.take (k + 1))) := by
  unfold u8s over
  rw [List.map_map, List.map_map]
  apply List.ext_getElem
  · simp
  · intro j h1 h2
    simp only [List.length_set, List.length_map, List.length_range] at h1
    rw [List.getElem_set]
    have l1 : (s.take k).length = k := by rw [List.length_take]; omega
    have l2 : (s.take (k + 1)).length = k + 1 := by rw [List.length_take]; omega
    by_cases hj : a + k = j
    · subst hj
      simp [l2, List.getD_eq_getElem?_getD, List.getElem?_take, List.getElem?_eq_getElem hk]
    · simp only [hj, if_false, List.getElem_map, List.getElem_range, Function.comp_apply, l1, l2]
      by_cases h3 : a ≤ j ∧ j - a < k
      · rw [if_pos h3, if_pos ⟨h3.1, by omega⟩]
        simp [List.getD_eq_getElem?_getD, h3.2, (by omega : j - a < k + 1)]
      · rw [if_neg h3, if_neg (by omega)]
set_option maxRecDepth 100000 in
set_option maxHeartbeats 2000000 in
theorem refWrite_any (base : Nat) (v : Value) (d : List UInt8) (a : Int) (s : ByteArray) (w : World) (hd : d.length ≤ 4096) (hown : w.ownsRow base 5 1 v d.length (u8s d)) (hf : fitR d.length a s.size = true) (hss : s.size ≤ 9223372036854775807) :
    Calls Try.prog 19 #[v, .int .i64 a, .string s] w fun e w' => ∃ v', e = .returned (.tuple #[v', .int .i64 0]) ∧ w'.ownsRow w.heap.size 5 1 v' (over d a.toNat s.data.toList).length (u8s (over d a.toNat s.data.toList)) ∧ Below w.heap.size w w' := by
  obtain ⟨i0, hi, hz0, hz1, hz2⟩ := info_parts' byteInfoR
  obtain ⟨sp, cp, rfl⟩ : ∃ sp cp, v = .slice sp d.length cp := by
    rcases hown.2 with ⟨h, h0⟩ | ⟨g, cp, _, h, _⟩
    · exact ⟨none, 0, by rw [h, h0]⟩
    · exact ⟨_, _, h⟩
  have hFt := Fits_any sp cp d.length a s.size w hd
  rw [hf] at hFt
  have HFt := Lib.hid hFt
  have HOwn := Lib.hid hown
  clear hFt hown
  go_enter Try.func19, Try.ntmps19
  go_wp2_with (go_at_call 37; refine HFt.out.mono ?_; rintro e w1 ⟨rfl, hw1⟩; rw [hw1]; clear hw1 w1; refine Hid.out ?_)
  refine Lib.hid ?_
  have hbA : Below w.heap.size w (w.alloc (.cells #[] 5)) := (Below.refl _ _).alloc (Nat.le_refl _) _
  have hO0 : (w.alloc (.cells #[] 5)).ownsRow w.heap.size 5 1 (.slice (some ⟨w.heap.size, 0, none⟩) 0 0) ([] : List UInt8).length (u8s []) := World.ownsRow_lit (base := w.heap.size) (e := 5) (size := 1) w #[] 0 (Nat.le_refl _) (by decide) rfl
  have hOA := row_below HOwn.out hbA
  have hzA : w.heap.size ≤ (w.alloc (.cells #[] 5)).heap.size := by simp
  go_wp2_with (at_builtin; refine app_by rfl _ _ rfl w.heap.size base (.slice (some ⟨w.heap.size, 0, none⟩) 0 0) (.slice sp d.length cp) [] d rfl hO0 hzA (by simp; omega) rfl hOA ?_; intro v2 w2 hown2 hb2; refine Hid.out ?_)
  refine Lib.hid ?_
  rw [List.nil_append] at hown2
  have hb12 : Below w.heap.size w w2 := hbA.trans hb2
  obtain ⟨sp2, cp2, rfl⟩ : ∃ sp2 cp2, v2 = .slice sp2 d.length cp2 := by
    rcases hown2.2 with ⟨h, h0⟩ | ⟨g, cp2, _, h, _⟩
    · exact ⟨none, 0, by rw [h, h0]⟩
    · exact ⟨_, _, h⟩
  clear hO0 hOA hb2 hbA
  go_wp2_with fail
  obtain ⟨A, rfl, hA⟩ : ∃ A : Nat, a = (A : Int) ∧ A + s.size ≤ d.length := by
    simp only [fitR, Bool.and_eq_true, decide_eq_true_eq] at hf
    exact ⟨a.toNat, by omega, by omega⟩
  have hsl : s.data.toList.length = s.size := by simp
  go_loopw [9] (fun iv wr => ∃ k : Nat, iv = .int .i64 k ∧ k ≤ s.size ∧ wr.ownsRow w.heap.size 5 1 (.slice sp2 d.length cp2) d.length (u8s (over d A (s.data.toList.take k))) ∧ Below w.heap.size w wr) (fun iv _ => s.size - (intOf iv).toNat)
  case atStart => exact ⟨0, rfl, Nat.zero_le _, by rw [List.take_zero, over_nil]; exact hown2, hb12⟩
  case round =>
    obtain ⟨k, rfl, hk, how, hbr⟩ := hrel
    by_cases h1 : k < s.size
    · have h1i : (k : Int) < (s.size : Int) := by omega
      obtain ⟨g, rfl⟩ : ∃ g, sp2 = some ⟨g, 0, none⟩ := by
        rcases how.2 with ⟨h, h0⟩ | ⟨g, cp', _, h, _⟩
        · omega
        · simp only [Value.slice.injEq] at h; exact ⟨g, h.1⟩
      have hgl := how.lt g rfl
      have hkd : (A : Int) + (k : Int) < (d.length : Int) := by omega
      have hka : (A : Int) + (k : Int) = ((A + k : Nat) : Int) := by push_cast; rfl
      obtain ⟨u, c1⟩ : ∃ u, wr.cell? ⟨g, A + k, none⟩ = some u := by
        rw [how.cellAt (A + k) (by omega), List.getElem?_eq_getElem (by rw [u8s_len, over_len]; omega)]
        exact ⟨_, rfl⟩
      have f1 : wr.frozen? ⟨g, A + k, none⟩ = false := how.frozenAt _
      have hkl : k < s.data.toList.length := by omega
      obtain ⟨s1, s2⟩ := how.stored (A + k) (.int .u8 (s.data.toList[k].toNat : Int))
      rw [over_set d s.data.toList A k hkl] at s1
      have HS1 := Lib.hid s1
      have hwA : IntKind.i64.wrap ((A : Int) + (k : Int)) = ((A + k : Nat) : Int) := by rw [IntKind.wrap_i64]; omega
      have hkd2 : ((A + k : Nat) : Int) < (d.length : Int) := by omega
      have hnn : (0 : Int) ≤ ((A + k : Nat) : Int) := by omega
      clear how s1 s2 hka hkd
      have hse : s.data.toList[k] = s[k] := by simp [Array.getElem_toList]; rfl
      rw [hse] at HS1
      go_wp2
      refine ⟨⟨k + 1, by go_num, by omega, HS1.out, hbr.setCell (p := ⟨g, A + k, none⟩) hgl.1 _⟩, ?_⟩
      simp only [intOf]; omega
    · have h1i : ¬ (k : Int) < (s.size : Int) := by omega
      have HOW := Lib.hid how
      clear how
      go_wp2
      go_ret2
      refine ⟨_, rfl, ?_, hbr⟩
      have h := HOW.out
      rw [List.take_of_length_le (by omega)] at h
      rw [over_len]; exact h
end Go.Proofs.Ytpedinpjdepjdaa
