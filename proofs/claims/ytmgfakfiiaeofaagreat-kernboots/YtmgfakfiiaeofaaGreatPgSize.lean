/- What Resize and New of package pages do. -/
import Derived.Test.YtmgfakfiiaeofaaGreatPgPut
import Derived.Deep.RegionLaw
import Derived.OwnWalk
import Derived.BigRegion
import Derived.BigQuiet
import Derived.Deep.QuietTactic
import Derived.Test.YtmgfakfiiaeofaaGreatPgRTail
import Derived.Lib.SliceRun
/- What Write of package pages does, for every row of parts. -/
namespace Go.Proofs.YtmgfakfiiaeofaaGreat.Pg
open Go.RowKit Go.Lib
variable {K : Nat -> Prop}
def PsAt (w : World) (p : Option Addr) (l : List ByteArray) : Prop := l = [] ∨ ∃ blk off c f, p = some ⟨blk, off, none⟩ /\ w.heap[blk]? = some (.cells c 9 f) /\ ∀ j (h : j < l.length), c[off + j]? = some (.string l[j])
theorem PsAt.fr {w w' : World} {p : Option Addr} {l : List ByteArray} (h : PsAt w p l) (hf : Fr K w w') : PsAt w' p l := by
 rcases h with h | ⟨blk, off, c, f, h1, h2, h3⟩
 · exact .inl h
 · exact .inr ⟨blk, off, c, f, h1, hf.block h2 (by decide) (by decide), h3⟩
theorem PsAt.cell {w : World} {p : Option Addr} {l : List ByteArray} (h : PsAt w p l) (j : Nat) (hj : j < l.length) : ∃ blk off, p = some ⟨blk, off, none⟩ /\ w.cell? ⟨blk, off + j, none⟩ = some (.string l[j]) := by
 rcases h with rfl | ⟨blk, off, c, f, h1, h2, h3⟩
 · simp at hj
 · exact ⟨blk, off, h1, by simp [World.cell?, h2, h3 j hj]⟩
def sumL (l : List ByteArray) : Nat := (l.map ByteArray.size).sum
def catL (l : List ByteArray) : List UInt8 := l.flatMap fun s => s.data.toList
theorem sumL_take (l : List ByteArray) (k : Nat) (hk : k < l.length) : sumL (l.take (k + 1)) = sumL (l.take k) + l[k].size := by
 unfold sumL; rw [List.take_succ_eq_append_getElem hk, List.map_append, List.sum_append]; simp
theorem sumL_le (l : List ByteArray) (k : Nat) : sumL (l.take k) <= sumL l := by
 have h : l = l.take k ++ l.drop k := (List.take_append_drop k l).symm
 have e : sumL l = sumL (l.take k) + sumL (l.drop k) := by unfold sumL; conv => lhs; rw [h]
                                                           rw [List.map_append, List.sum_append]
 omega
theorem catL_len (l : List ByteArray) : (catL l).length = sumL l := by
 unfold catL sumL; induction l with
 | nil => rfl
 | cons x l ih => rw [List.flatMap_cons, List.length_append, ih, List.map_cons, List.sum_cons]; simp
theorem catL_take (l : List ByteArray) (k : Nat) (hk : k < l.length) : catL (l.take (k + 1)) = catL (l.take k) ++ l[k].data.toList := by
 unfold catL; rw [List.take_succ_eq_append_getElem hk, List.flatMap_append]; simp
theorem over_app (d : List UInt8) (a : Nat) (s t : List UInt8) : over (over d a s) (a + s.length) t = over d a (s ++ t) := by
 have := over_over d a s.length (s ++ t) (by simp)
 simpa using this
set_option maxRecDepth 100000 in
set_option maxHeartbeats 1000000 in
theorem Write_any (base Bb : Nat) (d : List UInt8) (ls : List (Nat × Bool)) (p : Option Addr) (cap : Nat) (a : Int) (l : List ByteArray) (w : World) (h : BAt K w base Bb d ls) (hp : PsAt w p l) (hs : sumL l < 4611686018427387904) (hl : l.length < 4611686018427387904) (ha : a <= 9223372036854775807) :
 Calls Tryz.prog 140 #[.pointer (some ⟨Bb, 0, none⟩), .int .i64 a, .slice p l.length cap] w fun e w' =>
  if fitsB d.length a (sumL l) = true then e = .returned (.int .i64 0) /\ (∃ ls', BAt K w' base Bb (over d a.toNat (catL l)) ls') /\ Below base w w' /\ Fr K w w'
  else e = .returned (.int .i64 9) /\ w' = w := by
 have HH := Lib.hid h
 have hlen := h.len
 have HC := Lib.hid (check_any h a (sumL l) ha)
 have hbb : base <= w.heap.size := by obtain ⟨v, hv, _⟩ := h.blk; have := (Array.getElem?_eq_some_iff.1 hv).1; have := h.bb; omega
 clear h
 go_enter Tryz.func140, Tryz.ntmps140
 go_wp2_with fail
 go_loopw [7, 15] (fun x y wr => ∃ k : Nat, k <= l.length /\ x = .int .i64 (sumL (l.take k) : Nat) /\ y = .int .i64 k /\ w = wr) (fun _ y _ => (l.length - intOf y).toNat)
 case atStart => exact ⟨0, Nat.zero_le _, rfl, rfl, rfl⟩
 case round =>
  obtain ⟨k, hk, rfl, rfl, rfl⟩ := hrel
  have hsk := sumL_le l k
  by_cases hlt : k < l.length
  · obtain ⟨blk, off, rfl, hc⟩ := hp.cell k hlt
    have hst := sumL_take l k hlt
    have hsk1 := sumL_le l (k + 1)
    have hki : (k : Int) < (l.length : Int) := by omega
    generalize l[k] = sk at hc hst
    go_wp2
    go_roundw
    case rel => exact ⟨k + 1, by omega, by rw [hst]; go_num, by go_num, trivial⟩
    case measure => simp [intOf]; omega
  · obtain rfl : k = l.length := by omega
    rw [List.take_length]
    by_cases hf : fitsB d.length a (sumL l) = true
    · rw [if_pos hf] at HC
      have hf' : 0 <= a /\ 0 <= (sumL l : Int) /\ (sumL l : Int) <= d.length - a := by simpa [fitsB] using hf
      have HF := Lib.hid hf
      obtain ⟨an, rfl⟩ : ∃ an : Nat, a = an := ⟨a.toNat, by omega⟩
      clear hf
      go_wp2_with (first | (go_at_call 106; refine HC.out.mono ?_; rintro e w1 ⟨rfl, hw1⟩; rw [hw1]; clear hw1 w1))
      go_loopw [1, 33] (fun x y ww => ∃ k : Nat, k <= l.length /\ x = .int .i64 ((an + sumL (l.take k) : Nat) : Int) /\ y = .int .i64 k /\ (∃ ls', BAt K ww base Bb (over d an (catL (l.take k))) ls') /\ RowKit.Below base w ww /\ Fr K w ww) (fun _ y _ => (l.length - intOf y).toNat)
      case atStart => exact ⟨0, Nat.zero_le _, rfl, rfl, ⟨ls, by rw [List.take_zero]; show BAt K w base Bb (over d an []) ls; rw [over_nil]; exact HH.out⟩, Below.refl _ _, Fr.refl _⟩
      case round =>
       obtain ⟨k, hk2, rfl, rfl, ⟨ls2, hA2⟩, hB2, hF2⟩ := hrel
       by_cases hlt2 : k < l.length
       · obtain ⟨blk, off, rfl, hc⟩ := (hp.fr hF2).cell k hlt2
         have hst := sumL_take l k hlt2
         have hsk1 := sumL_le l (k + 1)
         have hct := catL_take l k hlt2
         have hcl := catL_len (l.take k)
         have hki : (k : Int) < (l.length : Int) := by omega
         generalize l[k] = sk at hc hst hct
         have HP := Lib.hid (put_any base Bb (an + sumL (l.take k)) _ sk ls2 wr hA2 (by rw [over_len]; omega))
         have HO : Hid (over (over d an (catL (l.take k))) (an + sumL (l.take k)) sk.data.toList = over d an (catL (l.take (k + 1)))) := by simp only [Hid]; rw [hct, <- hcl]; exact over_app _ _ _ _
         rw [HO.out] at HP
         clear hA2 HO hct hcl
         go_wp2_with (first | (go_at_call 187; refine HP.out.mono ?_; rintro e w2 ⟨⟨pv, rfl⟩, hA3, hB3, hF3⟩))
         go_roundw
         case rel => exact ⟨k + 1, by omega, by rw [hst]; go_num, by go_num, hA3, hB2.trans hB3, hF2.trans hF3⟩
         case measure => simp [intOf]; omega
       · obtain rfl : k = l.length := by omega
         rw [List.take_length] at hA2
         have HA2 := Lib.hid hA2
         clear hA2
         go_wp2
         go_ret
         first | exact ⟨rfl, ⟨ls2, HA2.out⟩, hB2, hF2⟩ | (rw [if_pos HF.out]; exact ⟨rfl, ⟨ls2, HA2.out⟩, hB2, hF2⟩)
    · rw [if_neg hf] at HC
      have HF := Lib.hid hf
      clear hf
      go_wp2_with (first | (go_at_call 106; refine HC.out.mono ?_; rintro e w1 ⟨rfl, hw1⟩; rw [hw1]; clear hw1 w1))
      go_ret
      first | exact ⟨rfl, rfl⟩ | (rw [if_neg HF.out]; exact ⟨rfl, rfl⟩)
end Go.Proofs.YtmgfakfiiaeofaaGreat.Pg
/- open of package pages where the number of bytes is another one: as it stands amid growing and shrinking. -/
namespace Go.Proofs.YtmgfakfiiaeofaaGreat.Pg
open Go.RowKit
structure LAt (w : World) (base Bb n : Nat) (d : List UInt8) (ls : List (Nat × Bool)) : Prop where
 blk : ∃ v, w.heap[Bb]? = some (.cells #[.int .i64 n, v] 188 (0, 0)) /\ w.ownsRow base 185 2 v ls.length (lfs ls)
 pgs : ∀ (i : Nat) (x : Nat × Bool), ls[i]? = some x -> w.heap[x.1]? = some (.cells (u8s (pad d i)).toArray 296 (0, 0)) /\ (x.2 = true -> base <= x.1)
 dis : (ls.map (·.1)).Nodup
 bb : base <= Bb
theorem BAt.toL {K : Nat -> Prop} {w : World} {base Bb : Nat} {d : List UInt8} {ls : List (Nat × Bool)} (h : BAt K w base Bb d ls) : LAt w base Bb d.length d ls := ⟨h.blk, h.pgs, h.dis, h.bb⟩
theorem LAt.lt {w : World} {base Bb n : Nat} {d : List UInt8} {ls : List (Nat × Bool)} (h : LAt w base Bb n d ls) {x : Nat × Bool} (hx : x ∈ ls) : x.1 < w.heap.size := by
 obtain ⟨i, hi⟩ := List.getElem?_of_mem hx
 exact (Array.getElem?_eq_some_iff.1 (h.pgs i x hi).1).1
end Go.Proofs.YtmgfakfiiaeofaaGreat.Pg
/- What grow of package pages does. -/
namespace Go.Proofs.YtmgfakfiiaeofaaGreat.Pg
open Go.RowKit Go.Lib
theorem leafInfo : (Tryz.prog.info? 185).map (fun i => (i.zero, i.size, i.bytes)) = some (some (.agg #[.pointer none, .bool false]), 2, 16) := by kernel_rfl
theorem lfs_snoc (ls : List (Nat × Bool)) (x : Nat × Bool) : lfs (ls ++ [x]) = lfs ls ++ [.pointer (some ⟨x.1, 0, none⟩), .bool x.2] := by unfold lfs; rw [List.flatMap_append]; simp
theorem pad_beyond (d : List UInt8) (i : Nat) (h : d.length <= 64 * i) : pad d i = List.replicate 64 0 := by
 unfold pad
 rw [List.eq_replicate_iff]
 refine ⟨by simp, fun b hb => ?_⟩
 obtain ⟨j, _, rfl⟩ := List.mem_map.1 hb
 rw [List.getD_eq_getElem?_getD, List.getElem?_eq_none (by omega)]; rfl
theorem page0 : (u8s (List.replicate 64 0)).toArray = #[.int .u8 0, .int .u8 0, .int .u8 0, .int .u8 0, .int .u8 0, .int .u8 0, .int .u8 0, .int .u8 0, .int .u8 0, .int .u8 0, .int .u8 0, .int .u8 0, .int .u8 0, .int .u8 0, .int .u8 0, .int .u8 0, .int .u8 0, .int .u8 0, .int .u8 0, .int .u8 0, .int .u8 0, .int .u8 0, .int .u8 0, .int .u8 0, .int .u8 0, .int .u8 0, .int .u8 0, .int .u8 0, .int .u8 0, .int .u8 0, .int .u8 0, .int .u8 0, .int .u8 0, .int .u8 0, .int .u8 0, .int .u8 0, .int .u8 0, .int .u8 0, .int .u8 0, .int .u8 0, .int .u8 0, .int .u8 0, .int .u8 0, .int .u8 0, .int .u8 0, .int .u8 0, .int .u8 0, .int .u8 0, .int .u8 0, .int .u8 0, .int .u8 0, .int .u8 0, .int .u8 0, .int .u8 0, .int .u8 0, .int .u8 0, .int .u8 0, .int .u8 0, .int .u8 0, .int .u8 0, .int .u8 0, .int .u8 0, .int .u8 0, .int .u8 0] := by rfl
theorem set2b {w : World} {B : Nat} {t : TypeId} {v u : Value} (u' : Value) (h : w.heap[B]? = some (.cells #[v, u] t (0, 0))) : (w.setCell ⟨B, 1, none⟩ u').heap[B]? = some (.cells #[v, u'] t (0, 0)) := heap_setCell_same _ _ _ _ _ _ h
theorem set2a {w : World} {B : Nat} {t : TypeId} {v u : Value} (v' : Value) (h : w.heap[B]? = some (.cells #[v, u] t (0, 0))) : (w.setCell ⟨B, 0, none⟩ v').heap[B]? = some (.cells #[v', u] t (0, 0)) := heap_setCell_same _ _ _ _ _ _ h
theorem LAt.pushed {w w4 : World} {base Bb n pb : Nat} {d : List UInt8} {ls : List (Nat × Bool)} {v' : Value} (h : LAt w base Bb n d ls) (hpb : w.heap.size <= pb) (hb : base <= pb) (hd : d.length <= 64 * ls.length)
 (hk : ∀ (k : Nat) (o : Obj), w.heap[k]? = some o -> (∀ c f, o ≠ .cells c 185 f) -> w4.heap[k]? = some o) (hp : w4.heap[pb]? = some (.cells (u8s (List.replicate 64 0)).toArray 296 (0, 0)))
 (hr : w4.ownsRow base 185 2 v' (ls.length + 1) (lfs ls ++ [.pointer (some ⟨pb, 0, none⟩), .bool true])) : LAt (w4.setCell ⟨Bb, 1, none⟩ v') base Bb n d (ls ++ [(pb, true)]) := by
 obtain ⟨⟨v, hv, _⟩, hpg, h3, h6⟩ := h
 have hv4 := hk Bb _ hv (fun c f e => by cases e)
 have hne : ∀ (k : Nat) (c : Array Value) (t : TypeId) (f : Nat × Nat), w4.heap[k]? = some (.cells c t f) -> t ≠ 188 -> k ≠ Bb := fun k c t f hk ht e => by subst e; rw [hv4] at hk; cases hk; exact ht rfl
 refine ⟨⟨v', set2b _ hv4, ?_⟩, ?_, ?_, h6⟩
 · rw [List.length_append, lfs_snoc]
   refine hr.kept (row := some Bb) ⟨rfl, rfl, rfl, by simp, fun i _ hi => heap_setCell_ne _ _ _ (fun e => hi (by rw [e]))⟩ ?_
   rcases hr.2 with ⟨rfl, _⟩ | ⟨g, cap, cur, rfl, _, hgb, _⟩
   · exact .inl rfl
   · refine .inr fun e => ?_
     have : g = Bb := by simpa [Value.ownBlock] using e
     exact hne g _ _ _ hgb (by decide) this
 · intro i x hi
   rw [List.getElem?_append] at hi
   split at hi
   · obtain ⟨h1, h2⟩ := hpg i x hi
     have h1' := hk _ _ h1 (fun c f e => by cases e)
     exact ⟨(heap_setCell_ne _ _ _ (hne _ _ _ _ h1' (by decide))).trans h1', h2⟩
   · rename_i hlt
     obtain ⟨rfl, rfl⟩ : i = ls.length /\ x = (pb, true) := by
      have h0 : i - ls.length = 0 := by
       have := (List.getElem?_eq_some_iff.1 hi).1
       simp at this; omega
      rw [h0] at hi
      exact ⟨by omega, by simpa using hi.symm⟩
     refine ⟨(heap_setCell_ne _ _ _ (hne _ _ _ _ hp (by decide))).trans ?_, fun _ => hb⟩
     rw [pad_beyond d _ hd]; exact hp
 · rw [List.map_append]
   rw [List.nodup_append]
   refine ⟨h3, by simp, ?_⟩
   intro a ha b hb' e
   simp at hb'
   subst hb'
   obtain ⟨x, hx, rfl⟩ := List.mem_map.1 ha
   obtain ⟨i, hi⟩ := List.getElem?_of_mem hx
   have := (Array.getElem?_eq_some_iff.1 (hpg i x hi).1).1
   omega
def Neu (ls ls2 : List (Nat × Bool)) : Prop := ∀ x ∈ ls2, x ∈ ls ∨ x.2 = true
structure Fz (w w' : World) : Prop where
 size : w.heap.size <= w'.heap.size
 same : ∀ (k : Nat) (o : Obj), w.heap[k]? = some o -> (∀ c f, o ≠ .cells c 185 f) -> (∀ c f, o ≠ .cells c 296 f) -> (∀ c f, o ≠ .cells c 188 f) -> w'.heap[k]? = some o
theorem Fz.refl (w : World) : Fz w w := ⟨Nat.le_refl _, fun _ _ h _ _ _ => h⟩
theorem Fz.trans {a b c : World} (h : Fz a b) (k : Fz b c) : Fz a c := ⟨Nat.le_trans h.size k.size, fun i o hi h1 h2 h3 => k.same i o (h.same i o hi h1 h2 h3) h1 h2 h3⟩
theorem Fr.fz {K : Nat -> Prop} {a b : World} (h : Fr K a b) : Fz a b := ⟨h.size, fun k o hk h1 h2 _ => h.same k o hk h1 h2⟩
theorem Fz.block {a b : World} (h : Fz a b) {k : Nat} {c : Array Value} {t : TypeId} {f : Nat × Nat} (hk : a.heap[k]? = some (.cells c t f)) (h1 : t ≠ 185) (h2 : t ≠ 296) (h3 : t ≠ 188) : b.heap[k]? = some (.cells c t f) :=
 h.same k _ hk (fun c' f' e => by injection e with _ e2; exact h1 e2) (fun c' f' e => by injection e with _ e2; exact h2 e2) (fun c' f' e => by injection e with _ e2; exact h3 e2)
theorem Fz.set {a b : World} (h : Fz a b) {B : Nat} {c : Array Value} {f : Nat × Nat} (hB : b.heap[B]? = some (.cells c 188 f)) (o : Nat) (v : Value) : Fz a (b.setCell ⟨B, o, none⟩ v) :=
 ⟨by simpa using h.size, fun k ob hk h1 h2 h3 => (heap_setCell_ne _ _ _ (fun e => by
  have := h.same k ob hk h1 h2 h3
  subst e
  rw [hB] at this
  cases this
  exact h3 _ _ rfl)).trans (h.same k ob hk h1 h2 h3)⟩
set_option maxRecDepth 100000 in
set_option maxHeartbeats 1000000 in
theorem grow_any (base Bb n : Nat) (d : List UInt8) (ls : List (Nat × Bool)) (w : World) (h : BAt N0 w base Bb d ls) (hn : d.length <= n) (hn4 : n <= 4096) :
 Calls Tryz.prog 189 #[.pointer (some ⟨Bb, 0, none⟩), .int .i64 n] w fun e w' => (∃ v, e = .returned v) /\ (∃ ls', BAt N0 w' base Bb (d ++ List.replicate (n - d.length) 0) ls' /\ Neu ls ls') /\ Below base w w' /\ Fz w w' := by
 obtain ⟨i0, hi, hz0, hz1, hz2⟩ := info_parts leafInfo
 have HP := Lib.hid (pagesOf_any n hn4)
 have hlen := h.len
 have HCnt := Lib.hid h.cnt
 have hll : ls.length <= (n + 63) / 64 := by rw [h.cnt]; omega
 obtain ⟨v, hv, hr⟩ := h.blk
 obtain ⟨sp, cap, rfl⟩ : ∃ sp cap, v = .slice sp ls.length cap := by
  rcases hr.2 with ⟨rfl, h0⟩ | ⟨g, cap, _, rfl, _⟩
  · exact ⟨none, 0, by rw [h0]⟩
  · exact ⟨_, _, rfl⟩
 have c1 : w.cell? ⟨Bb, 1, none⟩ = some (.slice sp ls.length cap) := by simp [World.cell?, hv]
 have HH := Lib.hid h
 clear h hv hr
 go_enter Tryz.func189, Tryz.ntmps189
 go_wp2_with fail
 go_quiet (first | (go_at_call 229; refine (HP.out _).mono ?_; rintro e w1 ⟨rfl, hw1⟩; exact ⟨rfl, _, hw1⟩))
 go_wp2_with fail
 go_loopw [12] (fun y wr => ∃ k : Nat, y = .int .i64 k /\ k + ls.length <= (n + 63) / 64 /\ ∃ ls2 : List (Nat × Bool), ls2.length = ls.length + k /\ LAt wr base Bb d.length d ls2 /\ RowKit.Below base w wr /\ Fz w wr /\ Neu ls ls2) (fun y _ => ((n + 63) / 64 - ls.length - (intOf y).toNat))
 case atStart => exact ⟨0, rfl, by omega, ls, rfl, ⟨HH.out.toL.blk, HH.out.toL.pgs, HH.out.toL.dis, HH.out.bb⟩, ⟨rfl, rfl, rfl, Nat.le_refl _, fun _ _ => rfl⟩, ⟨Nat.le_refl _, fun _ _ h _ _ _ => h⟩, fun x hx => .inl hx⟩
 case round =>
  obtain ⟨k, rfl, hk, ls2, hl2, hA2, hB2, hF2, HO2⟩ := hrel
  have HA2 := Lib.hid hA2
  obtain ⟨v2, hv2, hr2⟩ := hA2.blk
  obtain ⟨sp2, cap2, rfl⟩ : ∃ sp cap, v2 = .slice sp ls2.length cap := by
   rcases hr2.2 with ⟨rfl, h0⟩ | ⟨g, cap, _, rfl, _⟩
   · exact ⟨none, 0, by rw [h0]⟩
   · exact ⟨_, _, rfl⟩
  have hl := (Array.getElem?_eq_some_iff.1 hv2).1
  have d0 : wr.cell? ⟨Bb, 0, none⟩ = some (.int .i64 d.length) := by simp [World.cell?, hv2]
  have d1 : wr.cell? ⟨Bb, 1, none⟩ = some (.slice sp2 ls2.length cap2) := by simp [World.cell?, hv2]
  have df : ∀ o, wr.frozen? ⟨Bb, o, none⟩ = false := fun o => by simp [World.frozen?, hv2]
  have df0 := df 0
  have df1 := df 1
  have HV2 := Lib.hid hv2
  clear hA2 hv2 df
  by_cases hlt : k + ls.length < (n + 63) / 64
  · have hki : (k : Int) < (((n + 63) / 64 : Nat) : Int) - (ls.length : Int) := by omega
    have hll2 : ls2.length < 64 := by omega
    have HL2 := Lib.hid hl2
    clear hl2
    have HRA := Lib.hid ((hr2.alloc (.cells #[.int .u8 0, .int .u8 0, .int .u8 0, .int .u8 0, .int .u8 0, .int .u8 0, .int .u8 0, .int .u8 0, .int .u8 0, .int .u8 0, .int .u8 0, .int .u8 0, .int .u8 0, .int .u8 0, .int .u8 0, .int .u8 0, .int .u8 0, .int .u8 0, .int .u8 0, .int .u8 0, .int .u8 0, .int .u8 0, .int .u8 0, .int .u8 0, .int .u8 0, .int .u8 0, .int .u8 0, .int .u8 0, .int .u8 0, .int .u8 0, .int .u8 0, .int .u8 0, .int .u8 0, .int .u8 0, .int .u8 0, .int .u8 0, .int .u8 0, .int .u8 0, .int .u8 0, .int .u8 0, .int .u8 0, .int .u8 0, .int .u8 0, .int .u8 0, .int .u8 0, .int .u8 0, .int .u8 0, .int .u8 0, .int .u8 0, .int .u8 0, .int .u8 0, .int .u8 0, .int .u8 0, .int .u8 0, .int .u8 0, .int .u8 0, .int .u8 0, .int .u8 0, .int .u8 0, .int .u8 0, .int .u8 0, .int .u8 0, .int .u8 0, .int .u8 0] 296)).alloc (.cells #[.pointer (some ⟨wr.heap.size, 0, none⟩), .bool true] 185))
    obtain ⟨Ws, hWs⟩ : ∃ Ws, (wr.alloc (.cells #[.int .u8 0, .int .u8 0, .int .u8 0, .int .u8 0, .int .u8 0, .int .u8 0, .int .u8 0, .int .u8 0, .int .u8 0, .int .u8 0, .int .u8 0, .int .u8 0, .int .u8 0, .int .u8 0, .int .u8 0, .int .u8 0, .int .u8 0, .int .u8 0, .int .u8 0, .int .u8 0, .int .u8 0, .int .u8 0, .int .u8 0, .int .u8 0, .int .u8 0, .int .u8 0, .int .u8 0, .int .u8 0, .int .u8 0, .int .u8 0, .int .u8 0, .int .u8 0, .int .u8 0, .int .u8 0, .int .u8 0, .int .u8 0, .int .u8 0, .int .u8 0, .int .u8 0, .int .u8 0, .int .u8 0, .int .u8 0, .int .u8 0, .int .u8 0, .int .u8 0, .int .u8 0, .int .u8 0, .int .u8 0, .int .u8 0, .int .u8 0, .int .u8 0, .int .u8 0, .int .u8 0, .int .u8 0, .int .u8 0, .int .u8 0, .int .u8 0, .int .u8 0, .int .u8 0, .int .u8 0, .int .u8 0, .int .u8 0, .int .u8 0, .int .u8 0] 296)).alloc (.cells #[.pointer (some ⟨wr.heap.size, 0, none⟩), .bool true] 185) = Ws := ⟨_, rfl⟩
    rw [hWs] at HRA
    have hsW : Ws.heap.size = wr.heap.size + 2 := by rw [<- hWs]; simp
    have hbW : RowKit.Below wr.heap.size wr Ws := by rw [<- hWs]; go_grown
    have hpgW : Ws.heap[wr.heap.size]? = some (.cells (u8s (List.replicate 64 0)).toArray 296 (0, 0)) := by rw [<- hWs, page0, Below.heap_alloc _ _ _ (by simp)]; exact heap_new _ _
    have hnW0 : Ws.cell? ⟨wr.heap.size + 1, 0, none⟩ = some (.pointer (some ⟨wr.heap.size, 0, none⟩)) := by rw [<- hWs]; simp [go_sem]
    have hnW1 : Ws.cell? ⟨wr.heap.size + 1, 1, none⟩ = some (.bool true) := by rw [<- hWs]; simp [go_sem]
    have hvW : Ws.heap[Bb]? = some (.cells #[.int .i64 d.length, .slice sp2 ls2.length cap2] 188 (0, 0)) := (hbW.block Bb hl).trans HV2.out
    have HN : Hid (∀ j u, ([.pointer (some ⟨wr.heap.size, 0, none⟩), .bool true] : List Value)[j]? = some u -> Ws.cell? ((⟨wr.heap.size + 1, 0, none⟩ : Addr).add j) = some u) := fun j u hu => by
     match j, hu with
     | 0, hu => simp at hu; subst hu; simpa [Addr.add] using hnW0
     | 1, hu => simp at hu; subst hu; simpa [Addr.add] using hnW1
     | j + 2, hu => simp at hu
    have HOn : Hid (∀ u ∈ ([.pointer (some ⟨wr.heap.size, 0, none⟩), .bool true] : List Value), u.oneCell' = true) := fun u hu => by simp at hu; rcases hu with rfl | rfl <;> rfl
    have hbs : base <= wr.heap.size := by have := HA2.out.bb; omega
    have hne4 : ∀ (k : Nat) (o : Obj), Ws.heap[k]? = some o -> (∀ c f, o ≠ .cells c 185 f) -> some k ≠ Value.ownBlock (.slice sp2 ls2.length cap2) := fun k o hk ho e => by
     rcases HRA.out.2 with ⟨h', _⟩ | ⟨g, cap', cur, h', _, hgb, _⟩
     · rw [h'] at e; simp [Value.ownBlock] at e
     · rw [h'] at e
       have : k = g := by simpa [Value.ownBlock] using e
       subst this
       rw [hgb] at hk; cases hk; exact ho _ _ rfl
    clear hr2 hnW0 hnW1
    go_wp2_with (at_builtin; refine wpList_append_own _ rfl _ _ 186 rfl base 185 i0 (.agg #[.pointer none, .bool false]) 2 16 (by kernel_rfl) hi hz0 hz1 hz2 rfl (by decide) _ _ _ rfl HRA.out ⟨wr.heap.size + 1, 0, none⟩ 1 1 [.pointer (some ⟨wr.heap.size, 0, none⟩), .bool true] rfl rfl HN.out HOn.out (by show _ <= 2 ^ 63 - 1; omega) (by omega) (by omega) ?_; intro v' w4 hown4 hgrow4 hnil4; clear hnil4; have hv4 : w4.heap[Bb]? = some (.cells #[.int .i64 d.length, .slice sp2 ls2.length cap2] 188 (0, 0)) := (hgrow4.block Bb (Array.getElem?_eq_some_iff.1 hvW).1 (hne4 Bb _ hvW (fun c f e => by cases e))).trans hvW; have c4 : w4.frozen? ⟨Bb, 1, none⟩ = false := (by simp [World.frozen?, hv4]); have e4 : w4.cell? ⟨Bb, 1, none⟩ = some (.slice sp2 ls2.length cap2) := (by simp [World.cell?, hv4]); obtain ⟨g', cap', hv'⟩ := ownsRow_succ hown4; subst hv'; have HW4 := Lib.hid hown4; have HG4 := Lib.hid hgrow4; clear hown4 hgrow4 hv4)
    go_roundw
    case rel =>
     have hk4 : ∀ (k : Nat) (o : Obj), Ws.heap[k]? = some o -> (∀ c f, o ≠ .cells c 185 f) -> w4.heap[k]? = some o := fun k o hk ho => (HG4.out.block k (Array.getElem?_eq_some_iff.1 hk).1 (hne4 k o hk ho)).trans hk
     have hl2 := HL2.out
     refine ⟨k + 1, by go_num, by omega, ls2 ++ [(wr.heap.size, true)], by rw [List.length_append]; simp; omega, ?_, ?_, ?_, (fun x hx => (List.mem_append.1 hx).elim (HO2 x) (fun h => .inr (by rw [List.mem_singleton.1 h])))⟩
     · refine HA2.out.pushed (Nat.le_refl _) hbs (by rw [hl2, HCnt.out]; omega) (fun k o hk ho => hk4 k o ((hbW.block k (Array.getElem?_eq_some_iff.1 hk).1).trans hk) ho) (hk4 _ _ hpgW (fun c f e => by cases e)) HW4.out
     · refine ((hB2.trans (hbW.mono hbs)).trans ⟨HG4.out.os, HG4.out.tape, HG4.out.output, HG4.out.size, fun k hk => HG4.out.block k (by omega) (fun e => ?_)⟩).setCell (p := ⟨Bb, 1, none⟩) HA2.out.bb _
       have := (HRA.out.lt k e.symm).1
       omega
     · exact (hF2.trans ⟨by have := HG4.out.size; omega, fun k o hk h1 _ _ => hk4 k o ((hbW.block k (Array.getElem?_eq_some_iff.1 hk).1).trans hk) h1⟩).set (hk4 Bb _ hvW (fun c f e => by cases e)) 1 _
    case measure => simp [intOf]; omega
  · have hki : ¬ (k : Int) < (((n + 63) / 64 : Nat) : Int) - (ls.length : Int) := by omega
    have HL2 := Lib.hid hl2
    clear hr2 hl2
    go_wp2
    go_end0
    have hdl : (d ++ List.replicate (n - d.length) 0).length = n := by simp; omega
    have hpad : ∀ i, pad (d ++ List.replicate (n - d.length) 0) i = pad d i := fun i => by
     unfold pad
     apply List.map_congr_left
     intro j _
     rw [List.getD_eq_getElem?_getD, List.getD_eq_getElem?_getD, List.getElem?_append]
     split
     · rfl
     · rw [List.getElem?_replicate, List.getElem?_eq_none (by omega : d.length <= 64 * i + j)]
       split <;> rfl
    obtain ⟨⟨v3, hv3, hr3⟩, hp3, hd3, hb3⟩ := HA2.out
    have hl2 := HL2.out
    have hne : ∀ (k : Nat) (c : Array Value) (t : TypeId) (f : Nat × Nat), wr.heap[k]? = some (.cells c t f) -> t ≠ 188 -> k ≠ Bb := fun k c t f hk ht e => by subst e; rw [hv3] at hk; cases hk; exact ht rfl
    refine ⟨⟨_, rfl⟩, ⟨ls2, ⟨⟨v3, ?_, ?_⟩, ?_, hd3, by omega, by rw [hdl]; omega, hb3, foe0 _ _ _⟩, HO2⟩, hB2.setCell (p := ⟨Bb, 0, none⟩) hb3 _, hF2.set hv3 0 _⟩
    · rw [hdl]; exact set2a _ hv3
    · refine hr3.kept (row := some Bb) ⟨rfl, rfl, rfl, by simp, fun i _ hi => heap_setCell_ne _ _ _ (fun e => hi (by rw [e]))⟩ ?_
      rcases hr3.2 with ⟨rfl, _⟩ | ⟨g, cap, cur, rfl, _, hgb, _⟩
      · exact .inl rfl
      · refine .inr fun e => ?_
        have : g = Bb := by simpa [Value.ownBlock] using e
        exact hne g _ _ _ hgb (by decide) this
    · intro i x hi
      rw [hpad]
      exact ⟨(heap_setCell_ne _ _ _ (hne _ _ _ _ (hp3 i x hi).1 (by decide))).trans (hp3 i x hi).1, (hp3 i x hi).2⟩
set_option maxHeartbeats 1000000 in
theorem Resize_e (base Bb n : Nat) (w : World) (h : BAt N0 w base Bb [] []) (hn : n <= 4096) :
 Calls Tryz.prog 141 #[.pointer (some ⟨Bb, 0, none⟩), .int .i64 n] w fun e w' => e = .returned (.int .i64 0) /\ (∃ ls', BAt N0 w' base Bb (List.replicate n 0) ls' /\ ∀ x ∈ ls', base <= x.1) /\ Below base w w' := by
 obtain ⟨v, hv, _⟩ := h.blk
 have c0 : w.cell? ⟨Bb, 0, none⟩ = some (.int .i64 0) := by simp [World.cell?, hv]
 have h1 : ¬ (n : Int) < 0 := by omega
 have h2 : ¬ (4096 : Int) < (n : Int) := by omega
 have HS := Lib.hid (grow_any base Bb n [] [] w h (by simp) hn)
 clear hv h
 go_enter Tryz.func141, Tryz.ntmps141
 go_wp2_with (first | (go_at_call 189; refine HS.out.mono ?_; rintro e w1 ⟨⟨u, rfl⟩, ⟨lq, hA, hO⟩, hB, _⟩))
 go_ret
 refine ⟨rfl, ⟨lq, by simpa using hA, fun x hx => ?_⟩, hB⟩
 obtain ⟨i, hi⟩ := List.getElem?_of_mem hx
 exact (hA.pgs i x hi).2 ((hO x hx).resolve_left (by simp))
theorem BAt.empty (w : World) : BAt N0 (w.alloc (.cells #[.int .i64 0, .slice none 0 0] 188)) w.heap.size w.heap.size [] [] :=
 ⟨⟨.slice none 0 0, heap_new _ _, World.ownsRow_nil _ _ _ _⟩, fun i x h => by simp at h, by simp, by simp, by simp, Nat.le_refl _, foe0 _ _ _⟩
theorem New_any (n : Nat) (w : World) (hn : n <= 4096) : Calls Tryz.prog 122 #[.int .i64 n] w fun e w' => e = .returned (.tuple #[.pointer (some ⟨w.heap.size, 0, none⟩), .int .i64 0]) /\ (∃ ls, BAt N0 w' w.heap.size w.heap.size (List.replicate n 0) ls /\ ∀ x ∈ ls, w.heap.size <= x.1) /\ Below w.heap.size w w' := by
 have HR := Lib.hid (Resize_e w.heap.size w.heap.size n _ (BAt.empty w) hn)
 go_enter Tryz.func122, Tryz.ntmps122
 go_wp2_with (first | (go_at_call 141; refine HR.out.mono ?_; rintro e w1 ⟨rfl, hA, hB⟩))
 go_ret2
 exact ⟨rfl, hA, ((Below.refl _ _).alloc (Nat.le_refl _) _).trans hB⟩
end Go.Proofs.YtmgfakfiiaeofaaGreat.Pg
