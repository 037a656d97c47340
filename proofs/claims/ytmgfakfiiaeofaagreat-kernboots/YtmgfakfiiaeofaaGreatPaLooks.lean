/- What Sees and Alters of the reference answer, and that it is what package label answers, for right labels. -/
import Derived.Test.YtmgfakfiiaeofaaGreatPaTake
import Derived.Lib.SmallJoins
import Derived.RangeFuncBox
import Derived.Test.YtmgfakfiiaeofaaGreatPaNamed
import Derived.Deep.RegionLaw
import Derived.Laws.AppendOwnNone
/- What short and fit of package label answer, for every row of entries. -/
namespace Go.Proofs.YtmgfakfiiaeofaaGreat.Pa
open Go.RowKit Go.Sort

def flat : List (Int × Int) -> List Value
 | [] => []
 | x :: xs => .int .i64 x.1 :: .int .i64 x.2 :: flat xs
theorem flat_append (xs ys : List (Int × Int)) : flat (xs ++ ys) = flat xs ++ flat ys := by
 induction xs with
 | nil => rfl
 | cons x xs ih => simp [flat, ih]
theorem flat_get (xs : List (Int × Int)) (j : Nat) (h : j < xs.length) : (flat xs)[j * 2]? = some (.int .i64 xs[j].1) /\ (flat xs)[j * 2 + 1]? = some (.int .i64 xs[j].2) := by
 induction xs generalizing j with
 | nil => simp at h
 | cons x xs ih =>
  cases j with
  | zero => simp [flat]
  | succ j =>
   have := ih j (by simpa using h)
   rw [show (j + 1) * 2 = j * 2 + 1 + 1 from by omega]
   simpa [flat] using this
theorem info30 : (Tryz.prog.info? 163).map (fun i => (i.zero, i.size, i.bytes)) = some (some (.agg #[.int .i64 0, .int .i64 0]), 2, 16) := by kernel_rfl

theorem own_out {w : World} {B : Nat} {v : Value} {zs : List (Int × Int)} (h : w.ownsRow B 163 2 v zs.length (flat zs)) : ∃ p cap, v = .slice p zs.length cap /\ CatsAt w p zs /\ zs.length <= cap := by
 have h' := h
 obtain ⟨_, h2⟩ := h
 rcases h2 with ⟨rfl, hn⟩ | ⟨g, cap, cur, rfl, hg, hh, hn, hcap, hsz, htake⟩
 · refine ⟨none, 0, by rw [hn], fun j hj => by omega, by omega⟩
 · refine ⟨some ⟨g, 0, none⟩, cap, rfl, fun j hj => ⟨g, 0, rfl, ?_, ?_, ?_⟩, hn⟩
   · exact (h'.lt g rfl).2
   · have := (h'.cellAt (j * 2) (by omega)).trans (flat_get zs j hj).1
     simpa using this
   · have := (h'.cellAt (j * 2 + 1) (by omega)).trans (flat_get zs j hj).2
     simpa using this

def shortS (d : Int) (xs : List (Int × Int)) : List (Int × Int) := xs.filter fun x => x.2 != d
theorem short_le (d : Int) (xs : List (Int × Int)) : (shortS d xs).length <= xs.length := List.length_filter_le _ _
theorem short_snoc (d : Int) (xs : List (Int × Int)) (k : Nat) (h : k < xs.length) : shortS d (xs.take (k + 1)) = if (xs[k].2 != d) = true then shortS d (xs.take k) ++ [xs[k]] else shortS d (xs.take k) := by
 unfold shortS
 rw [List.take_succ_eq_append_getElem h, List.filter_append]
 by_cases h : (xs[k].2 != d) = true <;> simp [h]

set_option maxRecDepth 100000 in
set_option maxHeartbeats 1000000 in
theorem short_any (d : Int) (p : Option Addr) (cap : Nat) (xs : List (Int × Int)) (w : World) (hm : xs.length * 16 <= 140737488355328) (hc : CatsAt w p xs) :
 Calls Tryz.prog 263 #[.int .i64 d, .slice p xs.length cap] w fun e w' => ∃ v, e = .returned (.agg #[.int .i64 d, v]) /\ w'.ownsRow w.heap.size 163 2 v (shortS d xs).length (flat (shortS d xs)) /\ Below w.heap.size w w' := by
 obtain ⟨i0, hi, hz0, hz1, hz2⟩ := info_parts info30
 go_enter Tryz.func263, Tryz.ntmps263
 go_wp2
 go_loopw [12] (fun i wr => ∃ (k : Nat) (v : Value), k <= xs.length /\ i = .int .i64 k /\ wr.ownsRow (w.heap.size + 2) 163 2 v (shortS d (xs.take k)).length (flat (shortS d (xs.take k))) /\ Below w.heap.size w wr /\ w.heap.size + 2 <= wr.heap.size /\ (wr.cell? ⟨w.heap.size, 0, none⟩ = some (.int .i64 0) /\ wr.cell? ⟨w.heap.size, 1, none⟩ = some (.slice none 0 0) /\ wr.cell? ⟨w.heap.size + 1, 0, none⟩ = some (.int .i64 d) /\ wr.cell? ⟨w.heap.size + 1, 1, none⟩ = some v) /\ (∀ o, wr.frozen? ⟨w.heap.size, o, none⟩ = false) /\ (∀ o, wr.frozen? ⟨w.heap.size + 1, o, none⟩ = false)) (fun i _ => xs.length - (intOf i).toNat)
 case atStart => exact ⟨0, .slice none 0 0, Nat.zero_le _, rfl, World.ownsRow_nil _ _ _ _, by go_grown, by simp, ⟨by simp [go_sem], by simp [go_sem], by simp [go_sem], by simp [go_sem]⟩, fun o => by simp [go_sem], fun o => by simp [go_sem]⟩
 case round =>
  obtain ⟨k, v, hk, rfl, hown, hB, hz, ⟨r0, r1, l0, l1⟩, rf, lf⟩ := hrel
  by_cases hlt : k < xs.length
  · obtain ⟨b, off, rfl, hbl, c0, c1⟩ := hc.get hB (Below.refl _ _) (Nat.le_refl _) k hlt
    clear hc
    have hs := short_snoc d xs k hlt
    have hle := short_le d (xs.take k)
    have hle2 : (xs.take k).length <= k := List.length_take_le _ _
    by_cases h3 : (xs[k].2 != d) = true
    · rw [if_pos h3] at hs
      have HS : Hid (shortS d (xs.take (k + 1)) = shortS d (xs.take k) ++ [xs[k]]) := hs
      clear hs
      have hz0' : w.heap.size < wr.heap.size := by omega
      have hz1' : w.heap.size + 1 < wr.heap.size := by omega
      have hWb : Below (w.heap.size + 2) wr ((wr.alloc (.cells #[.int .i64 xs[k].1, .int .i64 xs[k].2] 163)).alloc (.cells #[.int .i64 xs[k].1, .int .i64 xs[k].2] 163)) := by go_grown
      have hnews : Hid (∀ j u, [Value.int .i64 xs[k].1, Value.int .i64 xs[k].2][j]? = some u -> ((wr.alloc (.cells #[.int .i64 xs[k].1, .int .i64 xs[k].2] 163)).alloc (.cells #[.int .i64 xs[k].1, .int .i64 xs[k].2] 163)).cell? ((⟨wr.heap.size + 1, 0, none⟩ : Addr).add j) = some u) := by
       have := cell_two_new (wr.alloc (.cells #[.int .i64 xs[k].1, .int .i64 xs[k].2] 163)) (.int .i64 xs[k].1) (.int .i64 xs[k].2) 163
       rw [World.size_alloc] at this
       exact this
      have hownA := (hown.alloc (.cells #[.int .i64 xs[k].1, .int .i64 xs[k].2] 163)).alloc (.cells #[.int .i64 xs[k].1, .int .i64 xs[k].2] 163)
      have hlen : (shortS d (xs.take k)).length + 1 <= maxLen := by unfold maxLen; omega
      have hlen16 : ((shortS d (xs.take k)).length + 1) * 16 <= 140737488355328 := by omega
      have hone : Hid (∀ u ∈ [Value.int .i64 xs[k].1, Value.int .i64 xs[k].2], u.oneCell' = true) := fun x hx => by simp at hx; rcases hx with rfl | rfl <;> rfl
      go_wp2_with (at_builtin; refine wpList_append_own _ rfl _ _ 44 rfl (w.heap.size + 2) 163 i0 (.agg #[.int .i64 0, .int .i64 0]) 2 16 Tryz.underlying44 hi hz0 hz1 hz2 rfl (by decide) _ _ _ rfl hownA ⟨wr.heap.size + 1, 0, none⟩ 1 1 [.int .i64 xs[k].1, .int .i64 xs[k].2] rfl rfl hnews.out hone.out hlen hlen16 (by simp; omega) ?_; intro v' w3 hown' hgrow3 hnil3; obtain ⟨g', cap', rfl⟩ := ownsRow_succ hown'; have hb3 : Below (w.heap.size + 2) wr w3 := Below.grown hWb hgrow3 (by simp; omega) (fun j hj => (hown.lt _ hj).1); have r0' := (hb3.cell (p := ⟨w.heap.size, 0, none⟩) (by simp)).trans r0; have r1' := (hb3.cell (p := ⟨w.heap.size, 1, none⟩) (by simp)).trans r1; have l0' := (hb3.cell (p := ⟨w.heap.size + 1, 0, none⟩) (by simp)).trans l0; have l1' := (hb3.cell (p := ⟨w.heap.size + 1, 1, none⟩) (by simp)).trans l1; have rf' : ∀ o, w3.frozen? ⟨w.heap.size, o, none⟩ = false := (fun o => (hb3.frozen (p := ⟨w.heap.size, o, none⟩) (by simp)).trans (rf o)); have lf' : ∀ o, w3.frozen? ⟨w.heap.size + 1, o, none⟩ = false := (fun o => (hb3.frozen (p := ⟨w.heap.size + 1, o, none⟩) (by simp)).trans (lf o)))
      have hz3 : wr.heap.size <= w3.heap.size := hb3.size
      have hBf : Below (w.heap.size + 1) w3 (w3.setCell ⟨w.heap.size + 1, 1, none⟩ (.slice (some ⟨g', 0, none⟩) ((shortS d (xs.take k)).length + 1) cap')) := (Below.refl _ _).setCell (p := ⟨w.heap.size + 1, 1, none⟩) (Nat.le_refl _) _
      go_roundw
      case rel =>
       refine ⟨k + 1, .slice (some ⟨g', 0, none⟩) ((shortS d (xs.take k)).length + 1) cap', by omega, by go_num, ?_, (hB.trans (hb3.mono (by omega))).trans (hBf.mono (by omega)), by simp; omega, ⟨(hBf.cell (p := ⟨w.heap.size, 0, none⟩) (by simp)).trans r0', (hBf.cell (p := ⟨w.heap.size, 1, none⟩) (by simp)).trans r1', by simp [go_sem, l0'], World.cell?_setCell_same' _ _ _ (by rw [l1']; rfl)⟩, fun o => by rw [World.frozen?_setCell]; exact rf' o, fun o => by rw [World.frozen?_setCell]; exact lf' o⟩
       rw [HS.out, List.length_append, flat_append]
       exact ownsRow_setCell_below hown' (by simp) _
      case measure => simp [intOf]; omega
    · have h3' : (xs[k].2 != d) = false := by simpa using h3
      rw [if_neg h3] at hs
      have HS : Hid (shortS d (xs.take (k + 1)) = shortS d (xs.take k)) := hs
      clear hs
      have hWb : Below wr.heap.size wr (wr.alloc (.cells #[.int .i64 xs[k].1, .int .i64 xs[k].2] 163)) := by go_grown
      go_wp2
      go_roundw
      case rel =>
       exact ⟨k + 1, v, by omega, by go_num, by rw [HS.out]; exact hown.alloc _, hB.trans (hWb.mono (by omega)), by simp; omega, ⟨(hWb.cell (p := ⟨w.heap.size, 0, none⟩) (by simp; omega)).trans r0, (hWb.cell (p := ⟨w.heap.size, 1, none⟩) (by simp; omega)).trans r1, (hWb.cell (p := ⟨w.heap.size + 1, 0, none⟩) (by simp; omega)).trans l0, (hWb.cell (p := ⟨w.heap.size + 1, 1, none⟩) (by simp; omega)).trans l1⟩, fun o => (hWb.frozen (p := ⟨w.heap.size, o, none⟩) (by simp; omega)).trans (rf o), fun o => (hWb.frozen (p := ⟨w.heap.size + 1, o, none⟩) (by simp; omega)).trans (lf o)⟩
      case measure => simp [intOf]; omega
  · have hk' : xs.take k = xs := List.take_of_length_le (by omega)
    rw [hk'] at hown
    clear hk' hc
    have hle := short_le d xs
    rcases Joins.ownsRow_forms hown with ⟨rfl, hn⟩ | ⟨g, cap', rfl⟩
    all_goals
     go_wp2
     refine bodyPost_ret (by simp [results, Tryz.results263, go_sem, r0, r1]; rfl) rfl ⟨_, rfl, ?_, ?_⟩
     · exact Joins.ownsRow_le (ownsRow_setCell_below (ownsRow_setCell_below hown (by simp) _) (by simp) _) (by omega)
     · exact (hB.setCell (p := ⟨w.heap.size, 0, none⟩) (Nat.le_refl _) _).setCell (p := ⟨w.heap.size, 1, none⟩) (Nat.le_refl _) _


theorem step_append_own {P : Program} {ops : Array Oper} {o : Oper} {a : Act} {w : World} {K : Act -> World -> Prop} {Q : Exit -> Act -> World -> Prop} {E : Prop} (hg : o.guard = none) (s x : Operand) (t : TypeId)
 (ho : o.op = .call { callee := .builtin .append, args := #[s, x], argTypes := #[t, t] })
 (base : Nat) (e : TypeId) (i : TypeInfo) (z : Value) (size bytes : Nat) (ht : P.underlying t = some (.slice e)) (hi : P.info? e = some i) (hz : i.zero = some z)
 (hsize : i.size = size) (hby : i.bytes = bytes) (hzs : z.cells.size = size) (hsz : 0 < size)
 (v : Value) (n : Nat) (xs : List Value) (hs : a.eval s = v) (hown : w.ownsRow base e size v n xs)
 (ad : Addr) (m c : Nat) (news : List Value) (hx : a.eval x = .slice (some ad) m c) (hl : news.length = m * size) (hnews : ∀ j u, news[j]? = some u -> w.cell? (ad.add j) = some u) (h1 : ∀ u ∈ news, u.oneCell' = true)
 (h63 : n + m <= maxLen) (hbytes : (n + m) * bytes <= 140737488355328) (hbase : base <= w.heap.size)
 (h : ∀ v' w', w'.ownsRow base e size v' (n + m) (xs ++ news) -> w.grownBy w' v.ownBlock -> (v' = .slice none 0 0 ↔ v = .slice none 0 0 /\ m = 0) -> K (a.put o.dst v') w') :
 if Region.wanted o (yielded ops a.tmps) = true then Oper.wp P o a w K Q else E := by
 rw [if_pos (by simp [Region.wanted, hg])]
 exact wp_append_own w s x t ho base e i z size bytes ht hi hz hsize hby hzs hsz v n xs hs hown ad m c news hx hl hnews h1 h63 hbytes hbase h

theorem gb {w w' : World} (h : w.grownBy w' none) : Below w.heap.size w w' := ⟨h.os, h.tape, h.output, h.size, fun k hk => h.block k hk (by simp)⟩
def ot (f t l : Int) : Int := if (l == f) = true then t else l
def turnS (f t : Int) (xs : List (Int × Int)) : List (Int × Int) := xs.map fun x => (x.1, ot f t x.2)
theorem turn_snoc (f t : Int) (xs : List (Int × Int)) (k : Nat) (h : k < xs.length) : turnS f t (xs.take (k + 1)) = turnS f t (xs.take k) ++ [(xs[k].1, ot f t xs[k].2)] := by
 unfold turnS
 rw [List.take_succ_eq_append_getElem h, List.map_append]; rfl
theorem turn_len (f t : Int) (xs : List (Int × Int)) : (turnS f t xs).length = xs.length := List.length_map ..

theorem turn1_any (l f t : Int) (Bf Bt : Nat) (w : World) (hf : w.cell? ⟨Bf, 0, none⟩ = some (.int .i64 f)) (ht : w.cell? ⟨Bt, 0, none⟩ = some (.int .i64 t)) :
 Calls Tryz.prog 267 #[.int .i64 l, .pointer (some ⟨Bf, 0, none⟩), .pointer (some ⟨Bt, 0, none⟩)] w fun e w' => e = .returned (.int .i64 (ot f t l)) /\ w' = w := by
 by_cases h : (l == f) = true
 · have HO : Hid (ot f t l = t) := by simp only [Hid, ot]; rw [if_pos h]
   go_enter Tryz.func267, Tryz.ntmps267
   go_wp2
   go_ret
   exact ⟨ret_int HO.out.symm, rfl⟩
 · have HO : Hid (ot f t l = l) := by simp only [Hid, ot]; rw [if_neg h]
   have h' : (l == f) = false := by simpa using h
   go_enter Tryz.func267, Tryz.ntmps267
   go_wp2
   go_ret
   exact ⟨ret_int HO.out.symm, rfl⟩

theorem turn_start (d f t : Int) (p : Option Addr) (n cap : Nat) (w w0 : World) (h : ((((w.alloc (.cells #[.int .i64 d, .slice p n cap] 46)).alloc (.cells #[.int .i64 f] 3)).alloc (.cells #[.int .i64 t] 3)).alloc (.cells #[.int .i64 0, .slice none 0 0] 46)).grownBy w0 none) :
 Below w.heap.size w w0 /\ w.heap.size + 4 <= w0.heap.size /\ w0.cell? ⟨w.heap.size, 0, none⟩ = some (.int .i64 d) /\ w0.cell? ⟨w.heap.size, 1, none⟩ = some (.slice p n cap) /\ w0.cell? ⟨w.heap.size + 1, 0, none⟩ = some (.int .i64 f) /\ w0.cell? ⟨w.heap.size + 1 + 1, 0, none⟩ = some (.int .i64 t) /\
  w0.cell? ⟨w.heap.size + 1 + 1 + 1, 0, none⟩ = some (.int .i64 0) /\ w0.cell? ⟨w.heap.size + 1 + 1 + 1, 1, none⟩ = some (.slice none 0 0) /\ (∀ o, w0.frozen? ⟨w.heap.size + 1 + 1 + 1, o, none⟩ = false) := by
 have hb0 := gb h
 refine ⟨?_, ?_, ?_, ?_, ?_, ?_, ?_, ?_, fun o => ?_⟩
 · refine Below.trans ?_ (hb0.mono (by simp <;> omega)); go_grown
 · have := hb0.size; simp at this; omega
 · exact (hb0.cell (p := ⟨w.heap.size, 0, none⟩) (by simp <;> omega)).trans (by simp [go_sem])
 · exact (hb0.cell (p := ⟨w.heap.size, 1, none⟩) (by simp <;> omega)).trans (by simp [go_sem])
 · exact (hb0.cell (p := ⟨w.heap.size + 1, 0, none⟩) (by simp <;> omega)).trans (by simp [go_sem])
 · exact (hb0.cell (p := ⟨w.heap.size + 1 + 1, 0, none⟩) (by simp)).trans (by simp [go_sem])
 · exact (hb0.cell (p := ⟨w.heap.size + 1 + 1 + 1, 0, none⟩) (by simp)).trans (by simp [go_sem])
 · exact (hb0.cell (p := ⟨w.heap.size + 1 + 1 + 1, 1, none⟩) (by simp)).trans (by simp [go_sem])
 · exact (hb0.frozen (p := ⟨w.heap.size + 1 + 1 + 1, o, none⟩) (by simp)).trans (by simp [go_sem])

set_option maxRecDepth 100000 in
set_option maxHeartbeats 1000000 in
theorem turn_any (d f t : Int) (p : Option Addr) (cap : Nat) (xs : List (Int × Int)) (w : World) (hm : xs.length * 16 <= 140737488355328) (hc : CatsAt w p xs) :
 Calls Tryz.prog 222 #[.agg #[.int .i64 d, .slice p xs.length cap], .int .i64 f, .int .i64 t] w fun e w' => ∃ v, e = .returned (.agg #[.int .i64 (ot f t d), v]) /\
  w'.ownsRow w.heap.size 163 2 v (shortS (ot f t d) (turnS f t xs)).length (flat (shortS (ot f t d) (turnS f t xs))) /\ Below w.heap.size w w' := by
 obtain ⟨i0, hi, hz0, hz1, hz2⟩ := info_parts info30
 have hml : xs.length <= maxLen := by unfold maxLen; omega
 have hm2 : i0.bytes * xs.length <= 281474976710656 := by rw [hz2]; omega
 go_enter Tryz.func222, Tryz.ntmps222
 go_wp2_with (at_make; refine wpList_make_own _ rfl _ _ 44 rfl (w.heap.size + 4) 163 i0 (.agg #[.int .i64 0, .int .i64 0]) 2 Tryz.underlying44 hi hz0 hz1 .i64 .i64 _ xs.length rfl rfl rfl hm2 hml (by simp) ?_; intro w0 hown0 hgrow0; obtain ⟨hw0, hs0, n0, n1, nf, nt, nr0, nr1, nrf⟩ := turn_start d f t p xs.length cap w w0 hgrow0; clear hgrow0)
 go_loopw [8, 19] (fun r i wr => ∃ k : Nat, k <= xs.length /\ i = .int .i64 k /\ wr.ownsRow (w.heap.size + 4) 163 2 r (turnS f t (xs.take k)).length (flat (turnS f t (xs.take k))) /\ Below (w.heap.size + 4) w0 wr) (fun _ i _ => xs.length - (intOf i).toNat)
 case atStart => exact ⟨0, Nat.zero_le _, rfl, by simp only [World.size_alloc] at hown0; exact hown0, Below.refl _ _⟩
 case round =>
  obtain ⟨k, hk, rfl, hown, hb⟩ := hrel
  have hB : Below w.heap.size w wr := hw0.trans (hb.mono (by omega))
  have hz : w.heap.size + 4 <= wr.heap.size := by have := hb.size; omega
  have m0 := (hb.cell (p := ⟨w.heap.size, 0, none⟩) (by simp <;> omega)).trans n0
  have mf := (hb.cell (p := ⟨w.heap.size + 1, 0, none⟩) (by simp)).trans nf
  have mt := (hb.cell (p := ⟨w.heap.size + 1 + 1, 0, none⟩) (by simp)).trans nt
  by_cases hlt : k < xs.length
  · obtain ⟨b, off, rfl, hbl, c0, c1⟩ := hc.get hB (Below.refl _ _) (Nat.le_refl _) k hlt
    clear hc
    have hs := turn_snoc f t xs k hlt
    have HS : Hid (turnS f t (xs.take (k + 1)) = turnS f t (xs.take k) ++ [(xs[k].1, ot f t xs[k].2)]) := hs
    clear hs
    have hle2 : (turnS f t (xs.take k)).length <= k := by rw [turn_len]; exact List.length_take_le _ _
    have z1 : w.heap.size + 1 < wr.heap.size := by omega
    have z2 : w.heap.size + 1 + 1 < wr.heap.size := by omega
    have hownA := (hown.alloc (.cells #[.int .i64 xs[k].1, .int .i64 xs[k].2] 163)).alloc (.cells #[.int .i64 xs[k].1, .int .i64 (ot f t xs[k].2)] 163)
    have hnews : Hid (∀ j u, [Value.int .i64 xs[k].1, Value.int .i64 (ot f t xs[k].2)][j]? = some u -> ((wr.alloc (.cells #[.int .i64 xs[k].1, .int .i64 xs[k].2] 163)).alloc (.cells #[.int .i64 xs[k].1, .int .i64 (ot f t xs[k].2)] 163)).cell? ((⟨wr.heap.size + 1, 0, none⟩ : Addr).add j) = some u) := by
     have := cell_two_new (wr.alloc (.cells #[.int .i64 xs[k].1, .int .i64 xs[k].2] 163)) (.int .i64 xs[k].1) (.int .i64 (ot f t xs[k].2)) 163
     rw [World.size_alloc] at this
     exact this
    have hone : Hid (∀ u ∈ [Value.int .i64 xs[k].1, Value.int .i64 (ot f t xs[k].2)], u.oneCell' = true) := fun x hx => by simp at hx; rcases hx with rfl | rfl <;> rfl
    have hlen : (turnS f t (xs.take k)).length + 1 <= maxLen := by unfold maxLen; omega
    have hlen16 : ((turnS f t (xs.take k)).length + 1) * 16 <= 140737488355328 := by omega
    go_wp2
    go_region_law (first
     | (go_simp; go_at_call 267; refine (turn1_any _ f t _ _ _ (by simp [go_sem, z1, mf]) (by simp [go_sem, z2, mt])).mono ?_; rintro e w' ⟨rfl, rfl⟩)
     | (refine step_append_own rfl (.tmp 23) (.tmp 31) 44 rfl (w.heap.size + 4) 163 i0 (.agg #[.int .i64 0, .int .i64 0]) 2 16 Tryz.underlying44 hi hz0 hz1 hz2 rfl (by decide) u8 _ _ (by simp [Act.eval]) hownA.drew ⟨wr.heap.size + 1, 0, none⟩ 1 1 [.int .i64 xs[k].1, .int .i64 (ot f t xs[k].2)] (by simp [Act.eval]) rfl hnews.out hone.out hlen hlen16 (by simp <;> omega) ?_; intro v' w3 hown' hgrow3 hnil3))
    all_goals go_wp2
    all_goals
     have hb3 : Below (w.heap.size + 4) w0 w3 := Below.grown (((hb.alloc hz _).alloc (by simp <;> omega) _).drew) hgrow3 (by simp <;> omega) (fun j hj => (hown.lt _ hj).1)
     go_roundw
     case rel => exact ⟨k + 1, by omega, by go_num, by rw [HS.out, List.length_append, flat_append]; exact hown', hb3⟩
     case measure => simp [intOf]; omega
  · have hk' : xs.take k = xs := List.take_of_length_le (by omega)
    rw [hk'] at hown
    clear hk' hc
    obtain ⟨p', cap', rfl, hc', hcap'⟩ := own_out hown
    have q0 := (hb.cell (p := ⟨w.heap.size + 1 + 1 + 1, 0, none⟩) (by simp)).trans nr0
    have q1 := (hb.cell (p := ⟨w.heap.size + 1 + 1 + 1, 1, none⟩) (by simp)).trans nr1
    have qf : ∀ o, wr.frozen? ⟨w.heap.size + 1 + 1 + 1, o, none⟩ = false := fun o => (hb.frozen (p := ⟨w.heap.size + 1 + 1 + 1, o, none⟩) (by simp)).trans (nrf o)
    have hlx : (turnS f t xs).length * 16 <= 140737488355328 := by rw [turn_len]; exact hm
    have hS := short_any (ot f t d) p' cap' (turnS f t xs) wr hlx hc'
    clear hown hown0 hc' n0 n1 nf nt nr0 nr1 nrf
    go_wp2_with (first
     | (go_at_call 267; refine (turn1_any _ f t _ _ _ mf mt).mono ?_; rintro e w' ⟨rfl, rfl⟩)
     | (go_at_call 263; refine hS.mono ?_; rintro e w5 ⟨v, rfl, hown5, hb5⟩; have s0 := (hb5.cell (p := ⟨w.heap.size + 1 + 1 + 1, 0, none⟩) (by simp <;> omega)).trans q0; have s1 := (hb5.cell (p := ⟨w.heap.size + 1 + 1 + 1, 1, none⟩) (by simp <;> omega)).trans q1; have sf : ∀ o, w5.frozen? ⟨w.heap.size + 1 + 1 + 1, o, none⟩ = false := (fun o => (hb5.frozen (p := ⟨w.heap.size + 1 + 1 + 1, o, none⟩) (by simp <;> omega)).trans (qf o)); obtain ⟨p5, cap5, rfl, hc5, hcap5⟩ := own_out hown5))
    refine bodyPost_ret (by simp [results, Tryz.results222, go_sem, s0, s1]; rfl) rfl ⟨_, rfl, ?_, ?_⟩
    · exact Joins.ownsRow_le (ownsRow_setCell_below (ownsRow_setCell_below hown5 (by simp <;> omega) _) (by simp <;> omega) _) (by omega)
    · exact ((hB.trans (hb5.mono hB.size)).setCell (p := ⟨w.heap.size + 1 + 1 + 1, 0, none⟩) (by simp <;> omega) _).setCell (p := ⟨w.heap.size + 1 + 1 + 1, 1, none⟩) (by simp <;> omega) _

theorem Up_any (d : Int) (p : Option Addr) (cap : Nat) (xs : List (Int × Int)) (w : World) (hm : xs.length * 16 <= 140737488355328) (hc : CatsAt w p xs) :
 Calls Tryz.prog 175 #[.agg #[.int .i64 d, .slice p xs.length cap]] w fun e w' => ∃ v, e = .returned (.agg #[.int .i64 (ot 0 5 d), v]) /\
  w'.ownsRow w.heap.size 163 2 v (shortS (ot 0 5 d) (turnS 0 5 xs)).length (flat (shortS (ot 0 5 d) (turnS 0 5 xs))) /\ Below w.heap.size w w' := by
 have hW : Below w.heap.size w ((w.alloc (.cells #[.int .i64 d, .slice p xs.length cap] 46)).alloc (.cells #[.int .i64 0, .slice none 0 0] 46)) := by go_grown
 have hT := turn_any d 0 5 p cap xs _ hm (hc.below hW)
 go_enter Tryz.func175, Tryz.ntmps175
 go_wp2_with (go_at_call 222; refine hT.mono ?_; rintro e w5 ⟨v, rfl, hown5, hb5⟩; have s0 : w5.cell? ⟨w.heap.size + 1, 0, none⟩ = some (.int .i64 0) := (hb5.cell (p := ⟨w.heap.size + 1, 0, none⟩) (by simp)).trans (by simp [go_sem]); have s1 : w5.cell? ⟨w.heap.size + 1, 1, none⟩ = some (.slice none 0 0) := (hb5.cell (p := ⟨w.heap.size + 1, 1, none⟩) (by simp)).trans (by simp [go_sem]); have sf : ∀ o, w5.frozen? ⟨w.heap.size + 1, o, none⟩ = false := (fun o => (hb5.frozen (p := ⟨w.heap.size + 1, o, none⟩) (by simp)).trans (by simp [go_sem])); obtain ⟨p5, cap5, rfl, hc5, hcap5⟩ := own_out hown5)
 refine bodyPost_ret (by simp [results, Tryz.results175, go_sem, s0, s1]; rfl) rfl ⟨_, rfl, ?_, ?_⟩
 · exact Joins.ownsRow_le (ownsRow_setCell_below (ownsRow_setCell_below hown5 (by simp) _) (by simp) _) (by simp <;> omega)
 · exact ((hW.trans (hb5.mono hW.size)).setCell (p := ⟨w.heap.size + 1, 0, none⟩) (by simp) _).setCell (p := ⟨w.heap.size + 1, 1, none⟩) (by simp) _

def upD (d : Int) : Int := ot 0 5 d
def upS (d : Int) (xs : List (Int × Int)) : List (Int × Int) := shortS (ot 0 5 d) (turnS 0 5 xs)
def seesS (dt dO : Int) (xs ys : List (Int × Int)) : Bool := leqS dO (upD dt) ys (upS dt xs)
def altersS (dt dO : Int) (xs ys : List (Int × Int)) : Bool := leqS dt dO xs ys && seesS dt dO xs ys
theorem upS_le (d : Int) (xs : List (Int × Int)) : (upS d xs).length <= xs.length := by
 unfold upS; exact Nat.le_trans (short_le _ _) (by rw [turn_len]; exact Nat.le_refl _)

set_option maxRecDepth 100000 in
set_option maxHeartbeats 1000000 in
theorem Sees_any (da db : Int) (p q : Option Addr) (cx cy : Nat) (xs ys : List (Int × Int)) (w : World) (hmx : xs.length * 16 <= 140737488355328) (hmy : ys.length <= maxLen) (hcy : ys.length <= cy)
 (hx : CatsAt w p xs) (hy : CatsAt w q ys) :
 Calls Tryz.prog 186 #[.agg #[.int .i64 da, .slice p xs.length cx], .agg #[.int .i64 db, .slice q ys.length cy]] w fun e w' => e = .returned (.bool (seesS da db xs ys)) /\ Below w.heap.size w w' := by
 have hW : Below w.heap.size w ((w.alloc (.cells #[.int .i64 da, .slice p xs.length cx] 46)).alloc (.cells #[.int .i64 db, .slice q ys.length cy] 46)) := by go_grown
 have hWd : ∀ W, Below w.heap.size w W -> CatsAt W p xs := fun W h => hx.below h
 have hWe : ∀ W, Below w.heap.size w W -> CatsAt W q ys := fun W h => hy.below h
 have hle := upS_le da xs
 have hmu : (upS da xs).length <= maxLen := by unfold maxLen; omega
 have HX : Hid (∀ W, Below w.heap.size w W -> CatsAt W p xs) := hWd
 have HY : Hid (∀ W, Below w.heap.size w W -> CatsAt W q ys) := hWe
 clear hWd hWe hx hy
 go_enter Tryz.func186, Tryz.ntmps186
 go_wp2
 go_region_law (first
  | (go_simp; go_at_call 175; refine (Up_any da p cx xs _ hmx (HX.out _ (by exact hW.drew))).mono ?_; rintro e w5 ⟨v, rfl, hown5, hb5⟩; obtain ⟨p5, cap5, rfl, hc5, hcap5⟩ := own_out hown5; have hB5 : Below w.heap.size w w5 := hW.drew.trans (hb5.mono (by simp <;> omega)); have s0 : w5.cell? ⟨w.heap.size + 1, 0, none⟩ = some (.int .i64 db) := (hb5.cell (p := ⟨w.heap.size + 1, 0, none⟩) (by simp)).trans (by simp [go_sem]); have s1 : w5.cell? ⟨w.heap.size + 1, 1, none⟩ = some (.slice q ys.length cy) := (hb5.cell (p := ⟨w.heap.size + 1, 1, none⟩) (by simp)).trans (by simp [go_sem]))
  | (go_simp; go_at_call 224; refine (Leq_any db (upD da) q p5 cy cap5 ys (upS da xs) _ hmy hmu hcy hcap5 (HY.out _ hB5) hc5).mono ?_; rintro e w6 ⟨rfl, hb6⟩))
 all_goals go_wp2
 all_goals go_ret
 all_goals exact ⟨rfl, hB5.trans (hb6.mono hB5.size)⟩

set_option maxRecDepth 100000 in
set_option maxHeartbeats 1000000 in
theorem Alters_any (da db : Int) (p q : Option Addr) (cx cy : Nat) (xs ys : List (Int × Int)) (w : World) (hmx : xs.length * 16 <= 140737488355328) (hmy : ys.length <= maxLen) (hcx : xs.length <= cx) (hcy : ys.length <= cy)
 (hx : CatsAt w p xs) (hy : CatsAt w q ys) :
 Calls Tryz.prog 178 #[.agg #[.int .i64 da, .slice p xs.length cx], .agg #[.int .i64 db, .slice q ys.length cy]] w fun e w' => e = .returned (.bool (altersS da db xs ys)) /\ Below w.heap.size w w' := by
 have hW : Below w.heap.size w ((w.alloc (.cells #[.int .i64 da, .slice p xs.length cx] 46)).alloc (.cells #[.int .i64 db, .slice q ys.length cy] 46)) := by go_grown
 have hmx' : xs.length <= maxLen := by unfold maxLen; omega
 have hL := Leq_any da db p q cx cy xs ys _ hmx' hmy hcx hcy (hx.below hW) (hy.below hW)
 by_cases h1 : leqS da db xs ys = true
 · go_enter Tryz.func178, Tryz.ntmps178
   go_wp2_with (first
    | (go_at_call 224; refine hL.mono ?_; rintro e w5 ⟨rfl, hb5⟩; have hB5 : Below w.heap.size w w5 := hW.trans (hb5.mono (by simp <;> omega)); have s0 : w5.cell? ⟨w.heap.size, 0, none⟩ = some (.int .i64 da) := (hb5.cell (p := ⟨w.heap.size, 0, none⟩) (by simp <;> omega)).trans (by simp [go_sem]); have s1 : w5.cell? ⟨w.heap.size, 1, none⟩ = some (.slice p xs.length cx) := (hb5.cell (p := ⟨w.heap.size, 1, none⟩) (by simp <;> omega)).trans (by simp [go_sem]); have t0 : w5.cell? ⟨w.heap.size + 1, 0, none⟩ = some (.int .i64 db) := (hb5.cell (p := ⟨w.heap.size + 1, 0, none⟩) (by simp)).trans (by simp [go_sem]); have t1 : w5.cell? ⟨w.heap.size + 1, 1, none⟩ = some (.slice q ys.length cy) := (hb5.cell (p := ⟨w.heap.size + 1, 1, none⟩) (by simp)).trans (by simp [go_sem]))
    | (go_at_call 186; refine (Sees_any da db p q cx cy xs ys _ hmx hmy hcy (hx.below hB5) (hy.below hB5)).mono ?_; rintro e w6 ⟨rfl, hb6⟩))
   go_ret
   exact ⟨ret_bool (by simp [altersS, h1]), hB5.trans (hb6.mono hB5.size)⟩
 · have h1' : leqS da db xs ys = false := by simpa using h1
   go_enter Tryz.func178, Tryz.ntmps178
   go_wp2_with (go_at_call 224; refine hL.mono ?_; rintro e w5 ⟨rfl, hb5⟩)
   go_ret
   exact ⟨ret_bool (by simp [altersS, h1']), hW.trans (hb5.mono (by simp <;> omega))⟩

def Rw (B : Nat) (W : World) (v : Value) (zs : List (Int × Int)) : Prop := (v = .slice none 0 0 /\ zs = []) ∨ ∃ b off cap, v = .slice (some ⟨b, off, none⟩) zs.length cap /\ zs.length <= cap /\ (B <= b /\ b < W.heap.size) /\ CatsAt W (some ⟨b, off, none⟩) zs
theorem Rw.below {B : Nat} {w w' : World} {v : Value} {zs : List (Int × Int)} (h : Rw B w v zs) (hb : Below w.heap.size w w') : Rw B w' v zs := by
 rcases h with ⟨h1, h2⟩ | ⟨b, off, cap, h1, h2, h3, h4⟩
 · exact .inl ⟨h1, h2⟩
 · exact .inr ⟨b, off, cap, h1, h2, ⟨h3.1, Nat.lt_of_lt_of_le h3.2 hb.size⟩, h4.below hb⟩
theorem Rw.own {B B' : Nat} {w : World} {v : Value} {zs : List (Int × Int)} (h : w.ownsRow B' 163 2 v zs.length (flat zs)) (hB : B <= B') : Rw B w v zs := by
 obtain ⟨p, cap, e, hc, hl⟩ := own_out h
 have h' := h
 obtain ⟨_, h2⟩ := h
 rcases h2 with ⟨rfl, hn⟩ | ⟨g, cap, cur, rfl, hg, hh, hn, _⟩
 · exact .inl ⟨rfl, List.eq_nil_of_length_eq_zero hn⟩
 · cases e
   exact .inr ⟨g, 0, cap, rfl, hn, ⟨Nat.le_trans hB (h'.lt g rfl).1, (h'.lt g rfl).2⟩, hc⟩
theorem Rw.set {B : Nat} {w : World} {v : Value} {zs : List (Int × Int)} (h : Rw B w v zs) {a : Addr} (ha : a.block < B) (u : Value) : Rw B (w.setCell a u) v zs := by
 rcases h with ⟨h1, h2⟩ | ⟨b, off, cap, h1, h2, h3, h4⟩
 · exact .inl ⟨h1, h2⟩
 · refine .inr ⟨b, off, cap, h1, h2, ⟨h3.1, by simpa using h3.2⟩, fun j hj => ?_⟩
   obtain ⟨b', off', e, hb', c0, c1⟩ := h4 j hj
   cases e
   exact ⟨b, off, rfl, by simpa using h3.2, by rw [World.cell?_setCell_other _ _ _ _ (fun e => by have := congrArg Addr.block e; simp at this; omega)]; exact c0, by rw [World.cell?_setCell_other _ _ _ _ (fun e => by have := congrArg Addr.block e; simp at this; omega)]; exact c1⟩
theorem Rw.mono {B B' : Nat} {w : World} {v : Value} {zs : List (Int × Int)} (h : Rw B w v zs) (hB : B' <= B) : Rw B' w v zs := by
 rcases h with ⟨h1, h2⟩ | ⟨b, off, cap, h1, h2, h3, h4⟩
 · exact .inl ⟨h1, h2⟩
 · exact .inr ⟨b, off, cap, h1, h2, ⟨Nat.le_trans hB h3.1, h3.2⟩, h4⟩
theorem Rw.out {B : Nat} {w : World} {v : Value} {zs : List (Int × Int)} (h : Rw B w v zs) : ∃ p cap, v = .slice p zs.length cap /\ CatsAt w p zs /\ zs.length <= cap := by
 rcases h with ⟨rfl, rfl⟩ | ⟨b, off, cap, h1, h2, h3, h4⟩
 · exact ⟨none, 0, rfl, fun j hj => by simp at hj, Nat.le_refl _⟩
 · exact ⟨_, cap, h1, h4, h2⟩

/- Plain facts: what is named, and that comparing at all that is named is comparing. -/
theorem Rise.filter {p : Int × Int -> Bool} : ∀ {l : Int} {xs : List (Int × Int)}, Rise l xs -> Rise l (xs.filter p)
 | _, [], _ => trivial
 | l, x :: xs, h => by
  rw [List.filter_cons]
  split
  · exact ⟨h.1, Rise.filter h.2⟩
  · exact Rise.mono (by have := h.1; omega) (Rise.filter h.2)
end Go.Proofs.YtmgfakfiiaeofaaGreat.Pa
