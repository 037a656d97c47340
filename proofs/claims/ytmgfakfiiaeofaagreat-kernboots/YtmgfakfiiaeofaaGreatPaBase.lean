/- Plain words of labels, and what the small functions of package label and of the reference answer, for every number. -/
import Derived.Test.YtmgfakfiiaeofaaGreatPgSize
import Derived.Test.YtmgfakfiiaeofaaGreatShelf
import Derived.Lib.UnsafeStr
import Derived.BigRegion
import Derived.Test.YtmgfakfiiaeofaaGreatProg
import Derived.WalkKit
import Derived.WalkSpells
import Derived.WalkLawsBesides
import Derived.Handy
import Derived.BigQuiet
import Derived.Shelf.SlSortCmp.QuietGrown
/- What Write of a strings.Builder does that has been grown. -/
namespace Go.Proofs.YtmgfakfiiaeofaaGreat.Pg
open Go.RowKit Go.Lib
theorem byteInfo : (Tryz.prog.info? 5).map (fun i => (i.zero, i.size, i.bytes)) = some (some (.int .u8 0), 1, 1) := by kernel_rfl
set_option maxRecDepth 100000 in
theorem copyCheck_any (B b : Nat) (bs : List Value) (w : World) (h : Lib.BuilderAt 173 5 B b (.pointer (some ⟨b, 0, none⟩)) bs w) :
 Calls Tryz.prog 162 #[.pointer (some ⟨b, 0, none⟩)] w fun e w' => e = .returned (.tuple #[]) /\ w' = w := by
 obtain ⟨hB, v, hv, _⟩ := h
 have c0 : w.cell? ⟨b, 0, none⟩ = some (.pointer (some ⟨b, 0, none⟩)) := by simp [World.cell?, hv]
 clear hv
 go_enter Tryz.func162, Tryz.ntmps162
 go_wp2
 obtain ⟨j, hj⟩ := Option.isSome_iff_exists.1 (show (Tryz.prog.info? 173).isSome = true by kernel_rfl)
 rw [Lib.run_neq_ptr_same w _ Tryz.underlying171 hj]
 go_wp2
 go_end0
 exact ⟨rfl, rfl⟩
theorem row_form {w : World} {base e size n : Nat} {v : Value} {xs : List Value} (h : w.ownsRow base e size v n xs) : ∃ sp n' cap, v = .slice sp n' cap := by
 rcases h.2 with ⟨rfl, rfl⟩ | ⟨g, cap, cur, rfl, _⟩
 · exact ⟨_, _, _, rfl⟩
 · exact ⟨_, _, _, rfl⟩
set_option maxRecDepth 100000 in
set_option maxHeartbeats 1000000 in
theorem BWrite_any (B b : Nat) (bs : List Value) (ad : Addr) (m c : Nat) (news : List Value) (w : World) (h : Lib.BuilderAt 173 5 B b (.pointer (some ⟨b, 0, none⟩)) bs w)
 (hl : news.length = m) (hnews : ∀ j u, news[j]? = some u -> w.cell? (ad.add j) = some u) (h1 : ∀ u ∈ news, u.oneCell' = true) (hlen : bs.length + m <= 140737488355328) (hBw : B <= w.heap.size) :
 Calls Tryz.prog 109 #[.pointer (some ⟨b, 0, none⟩), .slice (some ad) m c] w fun e w' => (∃ v, e = .returned v) /\ Lib.BuilderAt 173 5 B b (.pointer (some ⟨b, 0, none⟩)) (bs ++ news) w' /\ Below B w w' /\ KeepsOthers w w' := by
 obtain ⟨i0, hi, hz0, hz1, hz2⟩ := info_parts byteInfo
 have HC := Lib.hid (copyCheck_any B b bs w h)
 obtain ⟨hB, v, hbk, hown, hne⟩ := h
 obtain ⟨ao, n', cap, rfl⟩ : ∃ ao n' cap, v = .slice ao n' cap := by
  rcases hown.2 with ⟨hv, _⟩ | ⟨g, cap, cur, hv, _⟩
  · exact ⟨_, _, _, hv⟩
  · exact ⟨_, _, _, hv⟩
 have c0 : w.cell? ⟨b, 0, none⟩ = some (.pointer (some ⟨b, 0, none⟩)) := by rw [Lib.cell_of_heap hbk]; rfl
 have c1 : w.cell? ⟨b, 1, none⟩ = some (.slice ao n' cap) := by rw [Lib.cell_of_heap hbk]; rfl
 have hlt := (Array.getElem?_eq_some_iff.1 hbk).1
 have HK := Lib.hid hbk
 have HN := Lib.hid hne
 clear hbk hne
 go_enter Tryz.func109, Tryz.ntmps109
 go_wp2_with (first
  | (go_at_call 162; refine HC.out.mono ?_; rintro e w1 ⟨rfl, hw1⟩; rw [hw1]; clear hw1 w1)
  | (at_builtin; refine wpList_append_own _ rfl _ _ 74 rfl B 5 i0 (.int .u8 0) 1 1 (by kernel_rfl) hi hz0 hz1 hz2 rfl (by decide) _ _ _ rfl hown ad m c news rfl (by omega) hnews h1 (by show _ <= 2 ^ 63 - 1; omega) (by omega) hBw ?_; intro v' w2 hown' hgrow hnil; clear hnil; obtain ⟨ao2, n2, cap2, hv'⟩ := row_form hown'; subst hv'; have hb2 : w2.heap[b]? = some (.cells #[.pointer (some ⟨b, 0, none⟩), .slice ao n' cap] 173 (0, 0)) := (hgrow.block b hlt (fun e => HN.out e.symm)).trans HK.out; have d1 : w2.cell? ⟨b, 1, none⟩ = some (.slice ao n' cap) := (by rw [Lib.cell_of_heap hb2]; rfl); have f1 : w2.frozen? ⟨b, 1, none⟩ = false := Lib.frozen_of_heap hb2 1; have HW := Lib.hid hown'; have HG := Lib.hid hgrow; have HB2 := Lib.hid hb2; clear hown' hgrow hb2))
 go_ret2
 have hl2 : b < w2.heap.size := (Array.getElem?_eq_some_iff.1 HB2.out).1
 have hbB : some b ≠ (Value.slice ao2 n2 cap2).ownBlock := fun e => by
  rcases HW.out.2 with ⟨h', _⟩ | ⟨g, cap', cur, h', _, hgb, _⟩
  · rw [h'] at e; simp [Value.ownBlock] at e
  · rw [h'] at e
    have : b = g := by simpa [Value.ownBlock] using e
    subst this
    rw [HB2.out] at hgb; cases hgb
 have HG' : w.grownBy w2 (Value.ownBlock (.slice ao n' cap)) := HG.out
 refine ⟨⟨_, rfl⟩, ⟨hB, .slice ao2 n2 cap2, heap_setCell_same _ _ _ _ _ _ HB2.out, ?_, fun e => hbB e.symm⟩, ?_, ?_⟩
 · rw [List.length_append, hl]
   exact HW.out.kept (row := some b) ⟨rfl, rfl, rfl, by simp, fun i _ hi => heap_setCell_ne _ _ _ (fun e => hi (by rw [e]))⟩ (.inr (Ne.symm hbB))
 · refine Below.setCell (p := ⟨b, 1, none⟩) ?_ hB _
   exact ⟨HG'.os, HG'.tape, HG'.output, HG'.size, fun k hk => HG'.block k (by omega) (fun e => by have := (hown.lt k e.symm).1; omega)⟩
 · refine KeepsOthers.trans (KeepsOthers.of_grownBy HG' (fun j o e hj => ?_)) (KeepsOthers.setCell _ _ _)
   rcases hown.2 with ⟨h', _⟩ | ⟨g, cap', cur, h', _, hgb, _⟩
   · rw [h'] at e; simp [Value.ownBlock] at e
   · rw [h'] at e
     have : g = j := by simpa [Value.ownBlock] using e
     subst this
     rw [hgb] at hj; cases hj; rfl
theorem keeps_freeze {w w1 : World} (h : KeepsOthers w w1) (p : Addr) (n : Nat) (hp : ∃ c t f, w1.heap[p.block]? = some (.cells c t f)) : KeepsOthers w (w1.freeze p n) := by
 obtain ⟨c, t, f, hp⟩ := hp
 unfold World.freeze
 split
 · exact h
 · refine ⟨by simpa using h.size, fun k o hk ho => ?_⟩
   have h1 := h.same k o hk ho
   have hne : k ≠ p.block := fun e => by subst e; rw [hp] at h1; cases h1; cases ho
   show (w1.heap.modify p.block _)[k]? = _
   rw [Array.getElem?_modify, if_neg (Ne.symm hne)]; exact h1
set_option maxRecDepth 100000 in
set_option maxHeartbeats 1000000 in
theorem String_full (B b : Nat) (l : List UInt8) (p : Value) (w : World) (h : Lib.BuilderAt 173 5 B b p (Lib.byteCells l) w) (h0 : l ≠ []) :
 Calls Tryz.prog 110 #[.pointer (some ⟨b, 0, none⟩)] w fun e w' => e = .returned (.string ⟨l.toArray⟩) /\ Below B w w' /\ KeepsOthers w w' := by
 obtain ⟨hB, v, hbk, hown, hne⟩ := h
 have hl0 : l.length ≠ 0 := by simpa using h0
 rw [Lib.byteCells_length] at hown
 obtain ⟨g, cap, cur, rfl, hbg, hg, hnc, hcm, hcs, htake⟩ : ∃ g cap cur, v = .slice (some ⟨g, 0, none⟩) l.length cap /\ B <= g /\ w.heap[g]? = some (.cells cur 5 (0, 0)) /\ l.length <= cap /\ cap <= maxLen /\ cur.size = cap * 1 /\ cur.toList.take (l.length * 1) = Lib.byteCells l := by
  rcases hown.2 with ⟨_, hz⟩ | ⟨g, cap, cur, hv, r⟩
  · exact absurd hz hl0
  · exact ⟨g, cap, cur, hv, r⟩
 have c1 : w.drew.cell? ⟨b, 1, none⟩ = some (.slice (some ⟨g, 0, none⟩) l.length cap) := by
  have : w.drew.heap[b]? = some (.cells #[p, .slice (some ⟨g, 0, none⟩) l.length cap] 173 (0, 0)) := hbk
  rw [Lib.cell_of_heap this]; rfl
 have hSD : (Builtin.unsafeSliceData_ #[74] 234 #[.slice (some ⟨g, 0, none⟩) l.length cap]).run Tryz.prog w.drew = .ok (.pointer (some ⟨g, 0, none⟩)) w.drew :=
  Lib.run_unsafeSliceData_row _ _ _ _ _ _ (by omega)
 have hUS : (Builtin.unsafeString_ #[234, 3] 9 #[.pointer (some ⟨g, 0, none⟩), .int .i64 l.length]).run Tryz.prog w.drew = .ok (.string ⟨l.toArray⟩) (w.drew.freeze ⟨g, 0, none⟩ l.length) := by
  refine Lib.run_unsafeString_row w.drew 234 3 9 5 Tryz.underlying234 (by kernel_rfl) g cur.size (by have hg' : w.drew.heap[g]? = some (.cells cur 5 (0, 0)) := hg; simp [World.shape?, hg']) l h0 (by omega) (by unfold maxLen at hcm; omega) ?_
  intro j x hx
  have := hown.cells (g := g) rfl j (.int .u8 x.toNat) (by simp [Lib.byteCells, hx])
  exact this
 have HGc := Lib.hid hg
 clear hown hbk hg htake hcs
 go_enter Tryz.func110, Tryz.ntmps110
 go_wp2
 go_region
 all_goals (go_wp2; go_ret; exact ⟨rfl, Lib.below_freeze (Below.drew (Below.refl B w)) (p := ⟨g, 0, none⟩) hbg _, keeps_freeze (KeepsOthers.drew w) _ _ ⟨_, _, _, HGc.out⟩⟩)
theorem noStr (w : World) (p : Option Addr) : (Builtin.unsafeString_ #[234, 3] 9 #[.pointer p, .int .i64 0]).run Tryz.prog w = .ok (.string .empty) w := Lib.run_unsafeString_none w _ _ _ p
set_option maxRecDepth 100000 in
set_option maxHeartbeats 1000000 in
theorem String_none (B b : Nat) (p : Value) (w : World) (h : Lib.BuilderAt 173 5 B b p [] w) (hBw : B <= w.heap.size) :
 Calls Tryz.prog 110 #[.pointer (some ⟨b, 0, none⟩)] w fun e w' => e = .returned (.string ⟨#[]⟩) /\ Below B w w' /\ KeepsOthers w w' := by
 obtain ⟨hB, v, hbk, hown, hne⟩ := h
 have hUS := noStr
 have hlt := (Array.getElem?_eq_some_iff.1 hbk).1
 rcases hown.2 with ⟨rfl, _⟩ | ⟨g, cap, cur, rfl, hbg, hg, _, _, _, _⟩
 · have c1 : w.drew.cell? ⟨b, 1, none⟩ = some (.slice none 0 0) := by
    have : w.drew.heap[b]? = some (.cells #[p, .slice none 0 0] 173 (0, 0)) := hbk
    rw [Lib.cell_of_heap this]; rfl
   have hSD : (Builtin.unsafeSliceData_ #[74] 234 #[.slice none 0 0]).run Tryz.prog w.drew = .ok (.pointer none) w.drew := rfl
   clear hown hbk
   go_enter Tryz.func110, Tryz.ntmps110
   go_wp2
   go_region
   all_goals (go_wp2; go_ret; exact ⟨rfl, Below.drew (Below.refl B w), KeepsOthers.drew w⟩)
 · by_cases hc0 : cap = 0
   · subst hc0
     have c1 : w.drew.cell? ⟨b, 1, none⟩ = some (.slice (some ⟨g, 0, none⟩) 0 0) := by
      have : w.drew.heap[b]? = some (.cells #[p, .slice (some ⟨g, 0, none⟩) 0 0] 173 (0, 0)) := hbk
      rw [Lib.cell_of_heap this]; rfl
     have hSD : (Builtin.unsafeSliceData_ #[74] 234 #[.slice (some ⟨g, 0, none⟩) 0 0]).run Tryz.prog w.drew = .ok (.pointer (some ⟨w.drew.heap.size, 0, none⟩)) (w.drew.alloc (.view ⟨g, 0, none⟩ 5)) :=
      Lib.run_unsafeSliceData_zero w.drew _ _ 5 Tryz.underlying234 ⟨g, 0, none⟩ 0 (5, cur.size) (by have hg' : w.drew.heap[g]? = some (.cells cur 5 (0, 0)) := hg; simp [World.shape?, hg'])
     have c2 : (w.drew.alloc (.view ⟨g, 0, none⟩ 5)).cell? ⟨b, 1, none⟩ = some (.slice (some ⟨g, 0, none⟩) 0 0) := by
      have : (w.drew.alloc (.view ⟨g, 0, none⟩ 5)).heap[b]? = _ := (Lib.alloc_old w.drew _ b hlt).trans hbk
      rw [Lib.cell_of_heap this]; rfl
     have c3 : (w.alloc (.view ⟨g, 0, none⟩ 5)).drew.cell? ⟨b, 1, none⟩ = some (.slice (some ⟨g, 0, none⟩) 0 0) := c2
     have c0 : w.cell? ⟨b, 1, none⟩ = some (.slice (some ⟨g, 0, none⟩) 0 0) := c1
     clear hown hbk hg
     go_enter Tryz.func110, Tryz.ntmps110
     go_wp2
     go_region
     all_goals (go_wp2; go_ret; exact ⟨rfl, (Below.drew (Below.refl B w)).alloc hBw _, (KeepsOthers.drew w).trans (KeepsOthers.alloc _ _)⟩)
   · have c1 : w.drew.cell? ⟨b, 1, none⟩ = some (.slice (some ⟨g, 0, none⟩) 0 cap) := by
      have : w.drew.heap[b]? = some (.cells #[p, .slice (some ⟨g, 0, none⟩) 0 cap] 173 (0, 0)) := hbk
      rw [Lib.cell_of_heap this]; rfl
     have hSD : (Builtin.unsafeSliceData_ #[74] 234 #[.slice (some ⟨g, 0, none⟩) 0 cap]).run Tryz.prog w.drew = .ok (.pointer (some ⟨g, 0, none⟩)) w.drew :=
      Lib.run_unsafeSliceData_row _ _ _ _ _ _ hc0
     clear hown hbk hg hc0
     go_enter Tryz.func110, Tryz.ntmps110
     go_wp2
     go_region
     all_goals (go_wp2; go_ret; exact ⟨rfl, Below.drew (Below.refl B w), KeepsOthers.drew w⟩)
theorem String_any (B b : Nat) (l : List UInt8) (p : Value) (w : World) (h : Lib.BuilderAt 173 5 B b p (Lib.byteCells l) w) (hBw : B <= w.heap.size) :
 Calls Tryz.prog 110 #[.pointer (some ⟨b, 0, none⟩)] w fun e w' => e = .returned (.string ⟨l.toArray⟩) /\ Below B w w' /\ KeepsOthers w w' := by
 by_cases h0 : l = []
 · subst h0; exact String_none B b p w h hBw
 · exact String_full B b l p w h h0
variable {K : Nat -> Prop}
attribute [local go_sem] Oper.semAt_some
def rd (e : Nat) (d : List UInt8) (pre : List Nat) : List UInt8 := pre.flatMap fun x => (d.drop x).take (nx e x - x)
theorem rd_snoc (e : Nat) (d : List UInt8) (pre : List Nat) (x : Nat) : rd e d (pre ++ [x]) = rd e d pre ++ (d.drop x).take (nx e x - x) := by unfold rd; rw [List.flatMap_append]; simp
theorem rd_chn : ∀ (k e f : Nat) (d : List UInt8), e - f <= k -> rd e d (chn k e f) = (d.drop f).take (e - f)
 | 0, e, f, d, hk => by rw [show e - f = 0 from by omega]; simp [chn, rd]
 | k + 1, e, f, d, hk => by
  unfold chn
  split
  · rename_i h
    have h1 := nx_lt h
    have h2 := nx_le e f
    show (d.drop f).take (nx e f - f) ++ rd e d (chn k e (nx e f)) = _
    rw [rd_chn k e (nx e f) d (by omega)]
    have : (d.drop f).take (e - f) = (d.drop f).take ((nx e f - f) + (e - nx e f)) := by congr 1; omega
    rw [this, List.take_add, List.drop_drop, show f + (nx e f - f) = nx e f from by omega]
  · rw [show e - f = 0 from by omega]; simp [rd]
theorem rd_all (a n : Nat) (d : List UInt8) : rd (a + n) d (allPc a (a + n)) = (d.drop a).take n := by
 unfold allPc; rw [rd_chn _ _ _ _ (Nat.le_refl _)]; congr 1; omega
theorem rd_le (e : Nat) (d : List UInt8) (pre : List Nat) : (rd e d pre).length <= pre.length * d.length := by
 unfold rd; induction pre with
 | nil => simp
 | cons x l ih => rw [List.flatMap_cons, List.length_append, List.length_cons, Nat.add_mul, List.length_take, List.length_drop]; omega
theorem piece_pad (d : List UInt8) (e x : Nat) (he : e <= d.length) (j : Nat) (hj : j < nx e x - x) : (pad d (x / 64))[x % 64 + j]? = ((d.drop x).take (nx e x - x))[j]? := by
 have h64 : x % 64 + j < 64 := by unfold nx at hj; omega
 have hlt : x + j < d.length := by unfold nx at hj; omega
 unfold pad
 rw [List.getElem?_map, List.getElem?_range h64, List.getElem?_take_of_lt hj, List.getElem?_drop]
 show some (d.getD (64 * (x / 64) + (x % 64 + j)) 0) = _
 rw [show 64 * (x / 64) + (x % 64 + j) = x + j from by omega, List.getD_eq_getElem?_getD, List.getElem?_eq_getElem hlt]; rfl
theorem bld_kept {W W' : World} {B b : Nat} {p : Value} {bs : List Value} {row : Option Nat} (h : Lib.BuilderAt 173 5 B b p bs W) (hg : W.grownBy W' row) (hr : ∀ r, row = some r -> ∃ o : Obj, W.heap[r]? = some o /\ o.isCells = false) : Lib.BuilderAt 173 5 B b p bs W' := by
 obtain ⟨hB, v, hv, hrow, hne⟩ := h
 refine ⟨hB, v, block_kept hv hg hr, hrow.kept hg ?_, hne⟩
 rcases hrow.2 with ⟨rfl, _⟩ | ⟨g, cap, cur, rfl, _, hgb, _⟩
 · exact .inl rfl
 · refine .inr fun e => ?_
   obtain ⟨o, ho, hc⟩ := hr g (by rw [<- e]; simp [Value.ownBlock])
   rw [hgb] at ho; cases ho; cases hc
theorem bld_below {W W' : World} {B b : Nat} {p : Value} {bs : List Value} (h : Lib.BuilderAt 173 5 B b p bs W) (hb : Below W.heap.size W W') : Lib.BuilderAt 173 5 B b p bs W' :=
 bld_kept h (row := none) ⟨hb.os, hb.tape, hb.output, hb.size, fun k hk _ => hb.block k hk⟩ (fun r e => by cases e)
set_option maxRecDepth 100000 in
set_option maxHeartbeats 1000000 in
theorem Read_any (base Bb a n : Nat) (d : List UInt8) (ls : List (Nat × Bool)) (w : World) (h : BAt K w base Bb d ls) (hf : a + n <= d.length) :
 Calls Tryz.prog 50 #[.pointer (some ⟨Bb, 0, none⟩), .int .i64 a, .int .i64 n] w fun e w' => e = .returned (.tuple #[.string ⟨((d.drop a).take n).toArray⟩, .int .i64 0]) /\ Below w.heap.size w w' := by
 have hlen := h.len
 have hb : Below w.heap.size w (w.alloc (.cells #[.pointer (some ⟨Bb, 0, none⟩)] 142)) := (Below.refl _ _).alloc (Nat.le_refl _) _
 have HC : Hid (Calls Tryz.prog 106 #[.pointer (some ⟨Bb, 0, none⟩), .int .i64 a, .int .i64 n] (w.alloc (.cells #[.pointer (some ⟨Bb, 0, none⟩)] 142)) fun e w' => e = .returned (.int .i64 0) /\ w' = (w.alloc (.cells #[.pointer (some ⟨Bb, 0, none⟩)] 142))) := by
  have := check_any (h.below hb) (a : Int) (n : Int) (by omega)
  rw [show fitsB d.length (a : Int) (n : Int) = true from by simp [fitsB]; omega] at this
  exact this
 obtain ⟨W1, hW1⟩ : ∃ W1, (w.alloc (.cells #[.pointer (some ⟨Bb, 0, none⟩)] 142)).alloc (.cells #[.pointer none, .slice none 0 0] 173) = W1 := ⟨_, rfl⟩
 have hs1 : W1.heap.size = w.heap.size + 2 := by rw [<- hW1]; simp
 have hB1 : Below w.heap.size w W1 := by rw [<- hW1]; go_grown
 have hbk1 : W1.heap[w.heap.size + 1]? = some (.cells #[.pointer none, .slice none 0 0] 173 (0, 0)) := by
  rw [<- hW1]
  have := heap_new (w.alloc (.cells #[.pointer (some ⟨Bb, 0, none⟩)] 142)) (.cells #[.pointer none, .slice none 0 0] 173)
  simpa using this
 have hq1 : W1.heap[w.heap.size]? = some (.cells #[.pointer (some ⟨Bb, 0, none⟩)] 142 (0, 0)) := by
  rw [<- hW1, Below.heap_alloc _ _ _ (by simp)]; exact heap_new _ _
 have HG := Lib.hid (Tryz.Builder_Grow_fresh (w.heap.size + 1) (w.heap.size + 1) n W1 (Nat.le_refl _) hbk1 (by omega) (by omega))
 have HH := Lib.hid h
 clear h
 refine (callsIn_wide (n := 3)).1 ?_
 have h1 : Fence.wide.fn 50 := trivial
 have h2 : Fence.wide.fn 106 := trivial
 have h3 : Fence.wide.fn 164 := trivial
 have h4 : Fence.wide.fn 108 := trivial
 have h5 : Fence.wide.fn 107 := trivial
 have h6 : Fence.wide.fn 109 := trivial
 have h7 : Fence.wide.fn 110 := trivial
 have hro : Fence.wide.round = none := rfl
 refine callsIn_of_wp_marks Tryz.func50 rfl h1 ?_ hro
 simp only [Tryz.ntmps50, List.size_toArray, List.length_cons, List.length_nil, Nat.reduceAdd, Nat.reduceSub, Array.replicate_succ, Array.replicate_zero, List.push_toArray, List.append_toArray, List.nil_append, List.cons_append]
 gi_wp2_with (first
  | (gi_at_call 106; refine (callsIn_wide.2 HC.out).mono ?_; rintro e w' ⟨rfl, hw'⟩; rw [hw']; clear hw' w')
  | (gi_at_call 107; refine (callsIn_wide.2 HG.out).mono ?_; rintro e w2 ⟨rfl, hA2, hB2⟩)
  | (gi_at_call 108; refine (callsIn_wide.2 (pieces_any _ _ _)).mono ?_; rintro e w' ⟨rfl, rfl⟩))
 have hz2 := hB2.size
 have hb3 : Below w2.heap.size w2 ((w2.alloc (.cells #[.int .i64 a] 3)).alloc (.cells #[.int .i64 n] 3)) := by go_grown
 obtain ⟨W3, hW3⟩ : ∃ W3, ((w2.alloc (.cells #[.int .i64 a] 3)).alloc (.cells #[.int .i64 n] 3)) = W3 := ⟨_, rfl⟩
 have t0 : W3.cell? ⟨w2.heap.size, 0, none⟩ = some (.int .i64 a) := by rw [<- hW3]; simp [go_sem]
 have t1 : W3.cell? ⟨w2.heap.size + 1, 0, none⟩ = some (.int .i64 n) := by rw [<- hW3]; simp [go_sem]
 have hs3 : W3.heap.size = w2.heap.size + 2 := by rw [<- hW3]; simp
 rw [hW3] at hb3 |-
 clear hW3 hW1
 have hA3 := bld_below hA2 hb3
 have hB3 : Below (w.heap.size + 1) W1 W3 := hB2.trans (hb3.mono (by omega))
 refine wpIn_rangeFunc_ownH hro (by decide) (gf := 164) (lb := #[.pointer (some ⟨w2.heap.size, 0, none⟩), .pointer (some ⟨w2.heap.size + 1, 0, none⟩)]) rfl h3 (enters_of Tryz.func164 (by kernel_rfl) rfl)
  (pieces_stops 2 (by decide) w2.heap.size (w2.heap.size + 1) a n W3 (by omega) t0 t1 (by omega) (by omega)) (fun _ _ => trivial) (fun _ _ _ _ _ _ _ _ => trivial) (Below.refl _ _) (fun _ => rfl)
  (fun pre W => Lib.BuilderAt 173 5 (w.heap.size + 1) (w.heap.size + 1) (.pointer (some ⟨w.heap.size + 1, 0, none⟩)) (byteCells (rd (a + n) d (pre.map (·.1)))) W /\ Below (w.heap.size + 1) W1 W)
  (fun c pre W => False)
  (OwnFrom.and (fun x A B row hs hg hr => bld_kept hs hg (fun r e => (hr r e).2)) (ownFrom_below (by omega) (by omega)))
  (fun c => fun s A B row hs hg hr => hs)
  ⟨hA3, hB3⟩
  (fun x a' W => ∃ Bx, W.heap[Bx]? = some (.cells #[.int .i64 (x.1 / 64 : Nat), .int .i64 (x.1 % 64 : Nat), .int .i64 (x.1 % 64 + nx (a + n) x.1 - x.1 : Nat)] 178 (0, 0)) /\ a' = { tmps := #[.pointer (some ⟨Bb, 0, none⟩), .int .i64 a, .int .i64 n, .pointer (some ⟨w.heap.size, 0, none⟩), undef, undef, .string ⟨#[]⟩, .int .i64 0, .int .i64 0, .pointer (some ⟨w.heap.size + 1, 0, none⟩), .pointer (some ⟨Bx, 0, none⟩), .pointer (some ⟨Bb, 0, none⟩), .int .i64 a, .int .i64 n, .int .i64 0, .int .i64 0, .bool false, undef, .int .i64 n, .tuple #[], .int .i64 a, .int .i64 n, .func (.func 164) #[] #[.pointer (some ⟨w2.heap.size, 0, none⟩), .pointer (some ⟨w2.heap.size + 1, 0, none⟩)], pcV (a + n) x.1, undef, undef, undef, undef, undef, undef, undef, undef, undef, undef, undef, undef, undef, undef, undef, undef, undef], defers := [] })
  (fun x a' _ X Y row hs hg hr => by obtain ⟨Bx, h1, h2⟩ := hs; exact ⟨Bx, block_kept h1 hg (fun r e => (hr r e).2), h2⟩)
  ?assign ?body ?done ?stop
 case assign =>
  rintro l pre x W K ⟨hA, hB⟩ hK
  simp only [encP, pcV]
  gi_wp2
  have hbA : Below W.heap.size W (W.alloc (.cells #[.int .i64 ((x.1 : Int) / 64), .int .i64 ((x.1 : Int) % 64), .int .i64 (x.1 % 64 + nx (a + n) x.1 - x.1 : Nat)] 178)) := (Below.refl _ _).alloc (Nat.le_refl _) _
  exact hK _ _ ((KeepsOthers.alloc _ _).from _) trivial ⟨bld_below hA hbA, hB.trans (hbA.mono (by have := hB.size; omega))⟩ ⟨W.heap.size, heap_new _ _, rfl⟩
 case body =>
  rintro l pre x a' W hl hr ⟨hA, hB⟩ ⟨Bx, kx, rfl⟩ hlt
  have hxe := x.property
  have hnl := nx_lt hxe
  have hBW : Below w.heap.size w W := hB1.trans (hB.mono (by omega))
  have hq : W.heap[w.heap.size]? = some (.cells #[.pointer (some ⟨Bb, 0, none⟩)] 142 (0, 0)) := (hB.block _ (by omega)).trans hq1
  have hAW := HH.out.below hBW
  obtain ⟨v, hv, hrw⟩ := hAW.blk
  have hil : x.1 / 64 < ls.length := by rw [hAW.cnt]; omega
  obtain ⟨xo, hxo⟩ : ∃ xo, ls[x.1 / 64]? = some xo := ⟨_, List.getElem?_eq_getElem hil⟩
  obtain ⟨px, own⟩ := xo
  obtain ⟨e0, _⟩ := lfs_at ls (x.1 / 64) (px, own) hxo
  have hpg := (hAW.pgs (x.1 / 64) (px, own) hxo).1
  obtain ⟨g, cap, rfl⟩ : ∃ g cap, v = .slice (some ⟨g, 0, none⟩) ls.length cap := by
   rcases hrw.2 with ⟨_, h⟩ | ⟨g, cap, _, h, _⟩
   · omega
   · exact ⟨g, cap, h⟩
  have G0 : ∀ k, (W.drewN k).cell? ⟨w.heap.size, 0, none⟩ = some (.pointer (some ⟨Bb, 0, none⟩)) := fun k => show W.cell? _ = _ by simp [World.cell?, hq]
  have G1 : ∀ k, (W.drewN k).cell? ⟨Bb, 1, none⟩ = some (.slice (some ⟨g, 0, none⟩) ls.length cap) := fun k => show W.cell? _ = _ by simp [World.cell?, hv]
  have G2 : ∀ k, (W.drewN k).cell? ⟨Bx, 0, none⟩ = some (.int .i64 ((x.1 : Int) / 64)) := fun k => show W.cell? _ = _ by simp [World.cell?, kx]
  have G3 : ∀ k, (W.drewN k).cell? ⟨Bx, 1, none⟩ = some (.int .i64 ((x.1 : Int) % 64)) := fun k => show W.cell? _ = _ by simp [World.cell?, kx]
  have G4 : ∀ k, (W.drewN k).cell? ⟨Bx, 2, none⟩ = some (.int .i64 (x.1 % 64 + nx (a + n) x.1 - x.1 : Nat)) := fun k => show W.cell? _ = _ by simp [World.cell?, kx]
  have G5 : ∀ k, (W.drewN k).cell? ⟨g, x.1 / 64 * 2, none⟩ = some (.pointer (some ⟨px, 0, none⟩)) := fun k => show W.cell? _ = _ from (hrw.cellAt (x.1 / 64 * 2) (by omega)).trans e0
  have G6 : ∀ k, (W.drewN k).cell? ⟨g, ((x.1 : Int) / 64).toNat * 2, none⟩ = some (.pointer (some ⟨px, 0, none⟩)) := fun k => by rw [show ((x.1 : Int) / 64).toNat = x.1 / 64 from by omega]; exact G5 k
  have hi1 : (0 : Int) <= (x.1 : Int) / 64 := by omega
  have hi2 : (x.1 : Int) / 64 < (ls.length : Int) := by omega
  have hnx64 : x.1 % 64 + nx (a + n) x.1 - x.1 <= 64 /\ x.1 % 64 <= x.1 % 64 + nx (a + n) x.1 - x.1 /\ x.1 % 64 + nx (a + n) x.1 - x.1 - x.1 % 64 = nx (a + n) x.1 - x.1 /\ x.1 % 64 + (nx (a + n) x.1 - x.1) <= 64 /\ nx (a + n) x.1 <= a + n := by unfold nx; omega
  have hsp : ∀ w', (Instr.sliceAt 296 (.pointer (some ⟨px, 0, none⟩)) (some (.int .i64 ((x.1 : Int) % 64))) (some (.int .i64 ((x.1 % 64 + nx (a + n) x.1 - x.1 : Nat) : Int))) none).run Tryz.prog w' = .ok (.slice (some ⟨px, x.1 % 64, none⟩) (nx (a + n) x.1 - x.1) (64 - x.1 % 64)) w' := fun w' => by
   have := slice_page px (x.1 % 64) (x.1 % 64 + nx (a + n) x.1 - x.1) w' (by omega) (by omega) (by omega)
   rw [hnx64.2.2.1] at this
   exact this
  have HW : Hid (∀ k, Calls Tryz.prog 109 #[.pointer (some ⟨w.heap.size + 1, 0, none⟩), .slice (some ⟨px, x.1 % 64, none⟩) (nx (a + n) x.1 - x.1) (64 - x.1 % 64)] (W.drewN k) fun e w' => (∃ v, e = .returned v) /\ Lib.BuilderAt 173 5 (w.heap.size + 1) (w.heap.size + 1) (.pointer (some ⟨w.heap.size + 1, 0, none⟩)) (byteCells (rd (a + n) d (pre.map (·.1))) ++ byteCells ((d.drop x.1).take (nx (a + n) x.1 - x.1))) w' /\ Below (w.heap.size + 1) (W.drewN k) w' /\ KeepsOthers (W.drewN k) w') := fun k => by
   have hpl : ((d.drop x.1).take (nx (a + n) x.1 - x.1)).length = nx (a + n) x.1 - x.1 := by rw [List.length_take, List.length_drop]; omega
   refine BWrite_any (w.heap.size + 1) (w.heap.size + 1) _ ⟨px, x.1 % 64, none⟩ _ _ _ (W.drewN k) hA (by rw [byteCells_length, hpl]) (fun j u hu => ?_) (byteCells_one _) ?_ (by have := hB.size; show _ <= W.heap.size; omega)
   · show W.cell? _ = _
     have hj : j < nx (a + n) x.1 - x.1 := by have := (List.getElem?_eq_some_iff.1 hu).1; rwa [byteCells_length, hpl] at this
     rw [show (⟨px, x.1 % 64, none⟩ : Addr).add j = ⟨px, x.1 % 64 + j, none⟩ from by unfold Addr.add; split <;> simp_all]
     rw [cell_of_row _ _ _ _ _ _ hpg]
     have hpp := piece_pad d (a + n) x.1 (by omega) j hj
     unfold byteCells at hu
     rw [List.getElem?_map, <- hpp] at hu
     simpa [u8s] using hu
   · rw [byteCells_length]
     have := rd_le (a + n) d (pre.map (·.1))
     rw [List.length_map] at this
     have h2 : pre.length * d.length <= 4097 * 4096 := Nat.mul_le_mul (by omega) hlen
     omega
  have HB := Lib.hid hB
  clear hq hAW hv hrw hpg hA kx hB e0 hBW
  gi_wp2_with fail
  refine wpIn_region_quiet_tail (C := fun w' => ∃ k, w' = W.drewN k) 15 (by kernel_rfl) (by kernel_rfl) (by kernel_rfl) ⟨1, rfl⟩ ?_
  simp only [List.take_succ_cons, List.take_zero, List.drop_succ_cons, List.drop_zero]
  repeat (quiet_step (fail))
  refine wpQuiet_nil ?_
  intro _ hw'
  obtain ⟨nq, hw''⟩ := hw'
  subst hw''
  clear G0 G1 G2 G3 G4 G5 G6
  gi_wp2_with (gi_at_call 109; refine (CallsIn.inRound l (callsIn_wide.2 (HW.out nq))).mono ?_; rintro e w4 ⟨⟨u, rfl⟩, hA4, hB4, hK4⟩)
  refine ⟨(show KeepsOthers W w4 from ⟨hK4.size, hK4.same⟩).from _, trivial, ?_, HB.out.trans ⟨hB4.os, hB4.tape, hB4.output, hB4.size, hB4.block⟩⟩
  rw [List.map_append, List.map_singleton, rd_snoc]
  rw [show byteCells (rd (a + n) d (pre.map (·.1)) ++ (d.drop x.1).take (nx (a + n) x.1 - x.1)) = _ from List.map_append]
  exact hA4
 case done =>
  rintro D zs W hD hzs ⟨hA, hB⟩ hK
  rw [hzs, rd_all] at hA
  have hz := hB.size
  have HS := Lib.hid (String_any (w.heap.size + 1) (w.heap.size + 1) _ _ W hA (by omega))
  have HB := Lib.hid hB
  clear hA hB hzs
  gi_wp2_with (gi_at_call 110; refine (callsIn_wide.2 HS.out).mono ?_; rintro e w4 ⟨rfl, hb4, hk4⟩)
  have hK4 : w4.heap[D]? = some (.deferred (some [])) := hk4.same D _ hK rfl
  refine ⟨by simp, .inl ⟨_, _, rfl, run_takeDeferred hK4, ?_⟩⟩
  refine ⟨.tuple #[.string ⟨((d.drop a).take n).toArray⟩, .int .i64 0], ?_, rfl, ?_⟩
  · simp [results, Tryz.results50, go_sem]
  · have h4 : Below w.heap.size w w4 := hB1.trans ((HB.out.trans hb4).mono (by omega))
    exact h4.trans (belowK_b (w := w) (Nat.le_refl _) w4 D _ _ (by omega) hK4 rfl rfl)
 case stop =>
  rintro D c ys W hD hK h hp
  exact h.elim
end Go.Proofs.YtmgfakfiiaeofaaGreat.Pg
namespace Go.Proofs.YtmgfakfiiaeofaaGreat.Pa
open Go.RowKit Go.Sort

def lev (n : Int) : Bool := decide (0 <= n) && decide (n <= 5)
def isCt (n : Int) : Bool := decide (1 <= n) && decide (n <= 2305843009213693951)

theorem isLevel_any (n : Int) (w : World) : Calls Tryz.prog 169 #[.int .i64 n] w fun e w' => e = .returned (.bool (lev n)) /\ w' = w := by
 by_cases h1 : 0 <= n <;> by_cases h2 : n <= 5 <;>
 · go_enter Tryz.func169, Tryz.ntmps169
   go_wp2
   go_ret
   exact ⟨by simp [lev, h1, h2], rfl⟩

theorem isCat_any (n : Int) (w : World) : Calls Tryz.prog 218 #[.int .i64 n] w fun e w' => e = .returned (.bool (isCt n)) /\ w' = w := by
 by_cases h1 : 1 <= n <;> by_cases h2 : n <= 2305843009213693951 <;>
 · go_enter Tryz.func218, Tryz.ntmps218
   go_wp2
   go_ret
   exact ⟨by simp [isCt, h1, h2], rfl⟩
def can (x : Int × Int) : Bool := isCt x.1 && lev x.2
set_option maxHeartbeats 400000 in
theorem canBe_any (x : Int × Int) (w : World) : Calls Tryz.prog 170 #[.agg #[.int .i64 x.1, .int .i64 x.2]] w fun e w' => e = .returned (.bool (can x)) /\ w' = w.alloc (.cells #[.int .i64 x.1, .int .i64 x.2] 163) := by
 by_cases h1 : isCt x.1 = true
 · go_enter Tryz.func170, Tryz.ntmps170
   go_wp2_with (first | (go_at_call 218; refine (isCat_any _ _).mono ?_; rintro e w' ⟨rfl, rfl⟩) | (go_at_call 169; refine (isLevel_any _ _).mono ?_; rintro e w' ⟨rfl, rfl⟩))
   go_ret
   exact ⟨by simp [can, h1], rfl⟩
 · have h1' : isCt x.1 = false := by simpa using h1
   go_enter Tryz.func170, Tryz.ntmps170
   go_wp2_with (first | (go_at_call 218; refine (isCat_any _ _).mono ?_; rintro e w' ⟨rfl, rfl⟩) | (go_at_call 169; refine (isLevel_any _ _).mono ?_; rintro e w' ⟨rfl, rfl⟩))
   go_ret
   exact ⟨by simp [can, h1'], rfl⟩
def CatsAt (w : World) (p : Option Addr) (xs : List (Int × Int)) : Prop :=
 ∀ j, (h : j < xs.length) -> ∃ b off, p = some ⟨b, off, none⟩ /\ b < w.heap.size /\ w.cell? ⟨b, off + j * 2, none⟩ = some (.int .i64 xs[j].1) /\ w.cell? ⟨b, off + j * 2 + 1, none⟩ = some (.int .i64 xs[j].2)

def rOk (d : Int) : Int -> List (Int × Int) -> Bool
 | _, [] => true
 | last, x :: xs => can x && !(x.2 == d) && !(decide (x.1 <= last)) && rOk d x.1 xs
def rightS (d : Int) (xs : List (Int × Int)) : Bool := lev d && decide (xs.length <= 16) && rOk d 0 xs

def lastAt (xs : List (Int × Int)) (k : Nat) : Int := if k = 0 then 0 else (xs.getD (k - 1) (0, 0)).1

theorem rOk_step (d last : Int) (xs : List (Int × Int)) (k : Nat) (h : k < xs.length) :
 rOk d last (xs.drop k) = (can xs[k] && !(xs[k].2 == d) && !(decide (xs[k].1 <= last)) && rOk d xs[k].1 (xs.drop (k + 1))) := by
 rw [List.drop_eq_getElem_cons h]; rfl
theorem lastAt_succ (xs : List (Int × Int)) (k : Nat) (h : k < xs.length) : lastAt xs (k + 1) = xs[k].1 := by
 simp [lastAt, h]
theorem ret_bool {a b : Bool} (h : a = b) : Ending.returned (.bool a) = .returned (.bool b) := by rw [h]

theorem CatsAt.get {w : World} {p : Option Addr} {xs : List (Int × Int)} (h : CatsAt w p xs) {B : Nat} {w1 wr : World} (hb : Below B w1 wr) (h1 : Below w.heap.size w w1) (hB : w.heap.size <= B) (k : Nat) (hk : k < xs.length) :
 ∃ b off, p = some ⟨b, off, none⟩ /\ b < w.heap.size /\ wr.cell? ⟨b, off + k * 2, none⟩ = some (.int .i64 xs[k].1) /\ wr.cell? ⟨b, off + k * 2 + 1, none⟩ = some (.int .i64 xs[k].2) := by
 obtain ⟨b, off, hp, hbl, c0, c1⟩ := h k hk
 exact ⟨b, off, hp, hbl, ((hb.cell (p := ⟨b, off + k * 2, none⟩) (by simp; omega)).trans (h1.cell (p := ⟨b, off + k * 2, none⟩) hbl)).trans c0, ((hb.cell (p := ⟨b, off + k * 2 + 1, none⟩) (by simp; omega)).trans (h1.cell (p := ⟨b, off + k * 2 + 1, none⟩) hbl)).trans c1⟩


end Go.Proofs.YtmgfakfiiaeofaaGreat.Pa
