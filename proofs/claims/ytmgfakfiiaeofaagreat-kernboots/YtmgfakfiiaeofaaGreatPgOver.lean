/- Bytes written over others, and what that is page by page. -/
import Derived.Test.YtmgfakfiiaeofaaGreatProg
import Derived.WalkKit
import Derived.Handy
import Derived.Laws.AppendOwn
import Derived.Laws.OwnMore
import Derived.Lib.Hide
import Derived.IntWalk
import Derived.RangeFuncNested
import Derived.RangeFuncBound
import Derived.RangeFuncCalls
import Derived.RangeFuncLeaves
import Derived.RangeFuncBox
import Derived.RangeFuncWrites
import Derived.OwnWalkIn
import Derived.TacticsInMore
import Derived.LoopNIn
import Derived.LoopIn
import Derived.Outline
import Derived.BigRegionIn
import Derived.RangeFuncOwn
import Derived.Laws.Rows
import Derived.Deep.WholeRow
import Derived.Lib.BufferWrite
/- What stands in memory of a row of bytes in pages, and the small calls of package pages. -/
namespace Go.Proofs.YtmgfakfiiaeofaaGreat.Pg
open Go.RowKit
theorem wrap64_id {n : Int} (h0 : -9223372036854775808 <= n) (h1 : n < 9223372036854775808) : wrap64 n = n := by unfold wrap64; omega
def u8s (l : List UInt8) : List Value := l.map fun b => .int .u8 (b.toNat : Int)
def pad (d : List UInt8) (i : Nat) : List UInt8 := (List.range 64).map fun j => d.getD (64 * i + j) 0
def lfs (l : List (Nat × Bool)) : List Value := l.flatMap fun x => [.pointer (some ⟨x.1, 0, none⟩), .bool x.2]
theorem lfs_at : ∀ (l : List (Nat × Bool)) (i : Nat) (x : Nat × Bool), l[i]? = some x -> (lfs l)[i * 2]? = some (.pointer (some ⟨x.1, 0, none⟩)) /\ (lfs l)[i * 2 + 1]? = some (.bool x.2)
 | [], i, x, h => by simp at h
 | y :: l, 0, x, h => by simp at h; subst h; exact ⟨rfl, rfl⟩
 | y :: l, i + 1, x, h => by
  have := lfs_at l i x (by simpa using h)
  rw [show (i + 1) * 2 = i * 2 + 1 + 1 from by omega]
  exact this
structure Foe (K : Nat -> Prop) (w : World) (Bb : Nat) (ls : List (Nat × Bool)) : Prop where
 old : ∀ k, K k -> k < w.heap.size
 pg : ∀ x ∈ ls, ¬ K x.1
 row : ∀ c t f a n cp, w.heap[Bb]? = some (.cells c t f) -> c[1]? = some (.slice (some a) n cp) -> ¬ K a.block
def N0 : Nat -> Prop := fun _ => False
theorem foe0 (w : World) (Bb : Nat) (ls : List (Nat × Bool)) : Foe N0 w Bb ls := ⟨fun _ h => h.elim, fun _ _ h => h, fun _ _ _ _ _ _ _ _ h => h⟩
theorem Foe.kept {K : Nat -> Prop} {w w' : World} {Bb : Nat} {ls : List (Nat × Bool)} (h : Foe K w Bb ls) (hs : w.heap.size <= w'.heap.size) (hb : w'.heap[Bb]? = w.heap[Bb]?) : Foe K w' Bb ls := ⟨fun k hk => Nat.lt_of_lt_of_le (h.old k hk) hs, h.pg, fun c t f a n cp e => h.row c t f a n cp (hb.symm.trans e)⟩
structure BAt (K : Nat -> Prop) (w : World) (base Bb : Nat) (d : List UInt8) (ls : List (Nat × Bool)) : Prop where
 blk : ∃ v, w.heap[Bb]? = some (.cells #[.int .i64 d.length, v] 188 (0, 0)) /\ w.ownsRow base 185 2 v ls.length (lfs ls)
 pgs : ∀ (i : Nat) (x : Nat × Bool), ls[i]? = some x -> w.heap[x.1]? = some (.cells (u8s (pad d i)).toArray 296 (0, 0)) /\ (x.2 = true -> base <= x.1)
 dis : (ls.map (·.1)).Nodup
 len : d.length <= 4096
 cnt : ls.length = (d.length + 63) / 64
 bb : base <= Bb
 foe : Foe K w Bb ls
variable {K : Nat -> Prop}
theorem pagesOf_any (n : Nat) (hn : n <= 4096) (w : World) : Calls Tryz.prog 229 #[.int .i64 n] w fun e w' => e = .returned (.int .i64 ((n + 63) / 64 : Nat)) /\ w' = w := by
 go_enter Tryz.func229, Tryz.ntmps229
 have h : ((n : Int) + 64 - 1) / 64 = (((n + 63) / 64 : Nat) : Int) := by omega
 go_wp2
 go_ret
 rw [h]
 exact ⟨rfl, rfl⟩
def fitsB (len : Nat) (at' n : Int) : Bool := decide (0 <= at' /\ 0 <= n /\ n <= len - at')
theorem check_any {base Bb : Nat} {d : List UInt8} {ls : List (Nat × Bool)} {w : World} (h : BAt K w base Bb d ls) (a n : Int) (ha : a <= 9223372036854775807) : Calls Tryz.prog 106 #[.pointer (some ⟨Bb, 0, none⟩), .int .i64 a, .int .i64 n] w fun e w' => e = .returned (.int .i64 (if fitsB d.length a n = true then 0 else 9)) /\ w' = w := by
 obtain ⟨v, hv, _⟩ := h.blk
 have c0 : w.cell? ⟨Bb, 0, none⟩ = some (.int .i64 d.length) := by simp [World.cell?, hv]
 have hl := h.len
 clear hv h
 unfold fitsB
 by_cases h1 : a < 0
 · have hd : decide (0 <= a /\ 0 <= n /\ n <= (d.length : Int) - a) = false := by simp; omega
   rw [hd]; clear hd
   go_enter Tryz.func106, Tryz.ntmps106
   go_wp2
   go_ret
   exact ⟨rfl, rfl⟩
 · by_cases h2 : n < 0
   · have hd : decide (0 <= a /\ 0 <= n /\ n <= (d.length : Int) - a) = false := by simp; omega
     rw [hd]; clear hd
     go_enter Tryz.func106, Tryz.ntmps106
     go_wp2
     go_ret
     exact ⟨rfl, rfl⟩
   · have hw : wrap64 ((d.length : Int) - a) = (d.length : Int) - a := wrap64_id (by omega) (by omega)
     by_cases h3 : (d.length : Int) - a < n
     · have hd : decide (0 <= a /\ 0 <= n /\ n <= (d.length : Int) - a) = false := by simp; omega
       rw [hd]; clear hd
       go_enter Tryz.func106, Tryz.ntmps106
       go_wp2
       go_ret
       exact ⟨rfl, rfl⟩
     · have hd : decide (0 <= a /\ 0 <= n /\ n <= (d.length : Int) - a) = true := by simp; omega
       rw [hd]; clear hd
       go_enter Tryz.func106, Tryz.ntmps106
       go_wp2
       go_ret
       exact ⟨rfl, rfl⟩
attribute [local go_sem] Oper.semAt_some
def nx (e x : Nat) : Nat := min e (x - x % 64 + 64)
theorem nx_lt {e x : Nat} (h : x < e) : x < nx e x := by unfold nx; omega
theorem nx_le (e x : Nat) : nx e x <= e := by unfold nx; omega
def chn : Nat -> Nat -> Nat -> List Nat
 | 0, _, _ => []
 | k + 1, e, f => if f < e then f :: chn k e (nx e f) else []
def allPc (a e : Nat) : List Nat := chn (e - a) e a
theorem chn_step {k e f : Nat} (h : f < e) (hk : e - f <= k) : ∃ k', k = k' + 1 /\ e - nx e f <= k' /\ chn k e f = f :: chn k' e (nx e f) := by
 have := nx_lt h
 obtain ⟨k', rfl⟩ : ∃ k', k = k' + 1 := ⟨k - 1, by omega⟩
 exact ⟨k', rfl, by omega, by rw [chn, if_pos h]⟩
theorem chn_done {k e f : Nat} (h : ¬ f < e) : chn k e f = [] := by cases k <;> simp [chn, h]
abbrev Pc (e : Nat) := { x : Nat // x < e }
def pcV (e x : Nat) : Value := .agg #[.int .i64 (x / 64 : Nat), .int .i64 (x % 64 : Nat), .int .i64 (x % 64 + nx e x - x : Nat)]
def encP {e : Nat} (x : Pc e) : Array Value := #[pcV e x.1]
theorem pieces_any (a n : Int) (w : World) : Calls Tryz.prog 108 #[.int .i64 a, .int .i64 n] w fun e w' => e = .returned (.func (.func 164) #[] #[.pointer (some ⟨w.heap.size, 0, none⟩), .pointer (some ⟨w.heap.size + 1, 0, none⟩)]) /\ w' = (w.alloc (.cells #[.int .i64 a] 3)).alloc (.cells #[.int .i64 n] 3) := by
 go_enter Tryz.func108, Tryz.ntmps108
 go_wp2
 go_ret
 exact ⟨rfl, rfl⟩
theorem abides_below {β : Type} {B : Nat} {J : β -> World -> Prop} (h : AbidesFrom B J) {s : β} {W W' : World} (hs : J s W) (hb : Below W.heap.size W W') : J s W' :=
 h s W W' none hs ⟨hb.os, hb.tape, hb.output, hb.size, fun k hk _ => hb.block k hk⟩ (fun r e => by cases e)
set_option maxRecDepth 100000 in
set_option maxHeartbeats 2000000 in
theorem pieces1_in (n : Nat) (hn : 1 <= n) (l Ba Bn B0 : Nat) (a m : Nat) (ham : a + m <= 4096) (J Jx : List (Pc (a + m)) -> World -> Prop) (hJ : AbidesFrom B0 J)
 (hY : ∀ pre x W, J pre W -> pre.length < 4097 -> YieldAt Fence.wide (n - 1) Tryz.prog l (encP x) W fun e W' =>
  (e = .returned (.bool true) /\ J (pre ++ [x]) W') ∨ (e = .returned (.bool false) /\ Jx (pre ++ [x]) W'))
 (W : World) (t0 : W.cell? ⟨Ba, 0, none⟩ = some (.int .i64 a)) (t1 : W.cell? ⟨Bn, 0, none⟩ = some (.int .i64 m)) (h0 : J [] W) :
 CallsIn Fence.wide n Tryz.prog 164 #[.func (.yield l) #[] #[], .pointer (some ⟨Ba, 0, none⟩), .pointer (some ⟨Bn, 0, none⟩)] W fun e W' => (∃ v, e = .returned v) /\
  ((∃ zs, zs.map (·.1) = allPc a (a + m) /\ J zs W') ∨ (∃ pre, pre.map (·.1) <+: allPc a (a + m) /\ Jx pre W')) := by
 have h1 : Fence.wide.fn 164 := trivial
 have hro : Fence.wide.round = none := rfl
 refine callsIn_of_wp Tryz.func164 rfl h1 ?_ hro
 simp only [Tryz.ntmps164, List.size_toArray, List.length_cons, List.length_nil, Nat.reduceAdd, Nat.reduceSub, Array.replicate_succ, Array.replicate_zero, List.push_toArray, List.append_toArray, List.nil_append, List.cons_append]
 gi_wp2_with fail
 gi_region
 gi_wp2_with fail
 gi_loopw [4] (fun x wr => ∃ (pre : List (Pc (a + m))) (k cur : Nat), x = .int .i64 cur /\ (allPc a (a + m) = pre.map (·.1) ++ chn k (a + m) cur /\ a + m - cur <= k /\ cur <= a + m /\ pre.length <= cur) /\ J pre wr) (fun x _ => (a + m - intOf x).toNat)
 case atStart => exact ⟨[], m, a, rfl, ⟨by unfold allPc; simp, by omega, by omega, by simp⟩, abides_below hJ h0 ⟨rfl, rfl, rfl, Nat.le_refl _, fun _ _ => rfl⟩⟩
 case round =>
  obtain ⟨pre, k, cur, rfl, ⟨hA, hk, hce, hpl⟩, hJs⟩ := hrel
  by_cases hlt : cur < a + m
  · obtain ⟨k', rfl, hk', hch⟩ := chn_step hlt hk
    have hnl := nx_lt hlt
    have hne := nx_le (a + m) cur
    have HA : Hid (allPc a (a + m) = (pre ++ [(⟨cur, hlt⟩ : Pc (a + m))]).map (·.1) ++ chn k' (a + m) (nx (a + m) cur)) := by simp only [Hid]; rw [hA, hch]; simp
    clear hA hch
    have hci : (cur : Int) < (a : Int) + m := by omega
    by_cases hmin : (a : Int) + m <= (cur : Int) - cur % 64 + 64
    · have hnx : nx (a + m) cur = a + m := by unfold nx; omega
      have hpv : pcV (a + m) cur = .agg #[.int .i64 ((cur : Int) / 64), .int .i64 ((cur : Int) % 64), .int .i64 ((cur : Int) % 64 + ((a : Int) + m) - cur)] := by
       unfold pcV; rw [hnx, show ((cur % 64 + (a + m) - cur : Nat) : Int) = (cur : Int) % 64 + ((a : Int) + m) - cur from by omega]; rfl
      obtain ⟨fn, tmps, assign, body, hy0, hR⟩ := hY pre ⟨cur, hlt⟩ (wr.alloc (.cells #[.int .i64 ((cur : Int) / 64), .int .i64 ((cur : Int) % 64), .int .i64 ((cur : Int) % 64 + ((a : Int) + m) - cur)] 178)) (abides_below hJ hJs ((Below.refl _ _).alloc (Nat.le_refl _) _)) (by omega)
      dsimp only [encP] at hy0
      rw [hpv] at hy0
      rw [hnx] at HA
      clear hpv
      gi_wp2
      refine hR.mono ?_
      rintro e W3 (⟨rfl, hJ3⟩ | ⟨rfl, hJx3⟩)
      · have HJ3 := Lib.hid hJ3
        clear hJ3 hR
        gi_wp2
        go_roundw
        case rel => exact ⟨pre ++ [⟨cur, hlt⟩], k', a + m, by simp, ⟨HA.out, by omega, by omega, by simp; omega⟩, HJ3.out⟩
        case measure => simp [intOf]; omega
      · gi_wp2
        refine bodyPost_ret (results_none rfl _ _ _) rfl ?_
        exact ⟨⟨_, rfl⟩, .inr ⟨_, ⟨_, HA.out.symm⟩, hJx3⟩⟩
    · have hnx : nx (a + m) cur = cur - cur % 64 + 64 := by unfold nx; omega
      have hpv : pcV (a + m) cur = .agg #[.int .i64 ((cur : Int) / 64), .int .i64 ((cur : Int) % 64), .int .i64 ((cur : Int) % 64 + ((cur : Int) - (cur : Int) % 64 + 64) - cur)] := by
       unfold pcV; rw [hnx, show ((cur % 64 + (cur - cur % 64 + 64) - cur : Nat) : Int) = (cur : Int) % 64 + ((cur : Int) - (cur : Int) % 64 + 64) - cur from by omega]; rfl
      obtain ⟨fn, tmps, assign, body, hy0, hR⟩ := hY pre ⟨cur, hlt⟩ (wr.alloc (.cells #[.int .i64 ((cur : Int) / 64), .int .i64 ((cur : Int) % 64), .int .i64 ((cur : Int) % 64 + ((cur : Int) - (cur : Int) % 64 + 64) - cur)] 178)) (abides_below hJ hJs ((Below.refl _ _).alloc (Nat.le_refl _) _)) (by omega)
      dsimp only [encP] at hy0
      rw [hpv] at hy0
      rw [hnx] at HA
      clear hpv
      gi_wp2
      refine hR.mono ?_
      rintro e W3 (⟨rfl, hJ3⟩ | ⟨rfl, hJx3⟩)
      · have HJ3 := Lib.hid hJ3
        clear hJ3 hR
        gi_wp2
        go_roundw
        case rel => exact ⟨pre ++ [⟨cur, hlt⟩], k', cur - cur % 64 + 64, by congr 1; omega, ⟨HA.out, by omega, by omega, by simp; omega⟩, HJ3.out⟩
        case measure => simp [intOf]; omega
      · gi_wp2
        refine bodyPost_ret (results_none rfl _ _ _) rfl ?_
        exact ⟨⟨_, rfl⟩, .inr ⟨_, ⟨_, HA.out.symm⟩, hJx3⟩⟩
  · have hci : ¬ (cur : Int) < (a : Int) + m := by omega
    rw [chn_done hlt, List.append_nil] at hA
    have HA := Lib.hid hA
    clear hA
    gi_wp2
    go_end0
    exact ⟨⟨_, rfl⟩, .inl ⟨_, HA.out.symm, hJs⟩⟩
theorem pieces_stops (n : Nat) (hn : 1 <= n) (Ba Bn a m : Nat) (w : World) (ham : a + m <= 4096) (t0 : w.cell? ⟨Ba, 0, none⟩ = some (.int .i64 a)) (t1 : w.cell? ⟨Bn, 0, none⟩ = some (.int .i64 m)) (hBa : Ba < w.heap.size) (hBn : Bn < w.heap.size) :
 SeqStopsK Fence.wide n Tryz.prog 164 #[.pointer (some ⟨Ba, 0, none⟩), .pointer (some ⟨Bn, 0, none⟩)] (encP (e := a + m)) (fun _ _ => True) (fun zs => zs.map (·.1) = allPc a (a + m)) (fun pre => pre.map (·.1) <+: allPc a (a + m)) 4097 w := fun l J Jx W hW hJ _ hY h0 =>
 pieces1_in n hn l Ba Bn W.heap.size a m ham J Jx hJ (fun pre x W h h' => (hY pre x W h h').mono (fun _ _ h => h.imp (fun h => ⟨h.1, h.2.1⟩) id)) W ((hW.cell (p := ⟨Ba, 0, none⟩) hBa).trans t0) ((hW.cell (p := ⟨Bn, 0, none⟩) hBn).trans t1) h0
variable {K : Nat -> Prop}
theorem heap_new (w : World) (o : Obj) : (w.alloc o).heap[w.heap.size]? = some o := by show (w.heap.push o)[w.heap.size]? = _; simp
theorem pad_len (d : List UInt8) (i : Nat) : (pad d i).length = 64 := by unfold pad; simp
theorem heap_setCell_ne (w : World) (a : Addr) (v : Value) {k : Nat} (h : k ≠ a.block) : (w.setCell a v).heap[k]? = w.heap[k]? := by
 show (w.heap.modify a.block _)[k]? = _
 rw [Array.getElem?_modify, if_neg (Ne.symm h)]
theorem lfs_set : ∀ (ls : List (Nat × Bool)) (i : Nat) (x : Nat × Bool), i < ls.length -> ((lfs ls).set (i * 2) (.pointer (some ⟨x.1, 0, none⟩))).set (i * 2 + 1) (.bool x.2) = lfs (ls.set i x)
 | [], i, x, h => by simp at h
 | y :: l, 0, x, _ => rfl
 | y :: l, i + 1, x, h => by
  have := lfs_set l i x (by simpa using h)
  rw [show (i + 1) * 2 = i * 2 + 1 + 1 from by omega]
  show (Value.pointer (some ⟨y.1, 0, none⟩)) :: (Value.bool y.2) :: (((lfs l).set (i * 2) _).set (i * 2 + 1) _) = _
  rw [this]; rfl
theorem nodup_set {l : List (Nat × Bool)} {i n : Nat} {b : Bool} (h : (l.map (·.1)).Nodup) (hn : ∀ x ∈ l, x.1 ≠ n) : ((l.set i (n, b)).map (·.1)).Nodup := by
 rw [List.map_set]
 rw [List.nodup_iff_pairwise_ne] at *
 rw [List.pairwise_iff_getElem] at *
 intro p q hp hq hpq
 simp only [List.length_set, List.length_map] at hp hq
 rw [List.getElem_set, List.getElem_set]
 have hm : ∀ k (hk : k < l.length), (l.map (·.1))[k]'(by simpa using hk) ≠ n := fun k hk => by rw [List.getElem_map]; exact hn _ (List.getElem_mem hk)
 split
 · split
   · omega
   · exact (hm q hq).symm
 · split
   · exact hm p hp
   · exact h p q _ _ hpq
theorem BAt.lt {w : World} {base Bb : Nat} {d : List UInt8} {ls : List (Nat × Bool)} (h : BAt K w base Bb d ls) {x : Nat × Bool} (hx : x ∈ ls) : x.1 < w.heap.size := by
 obtain ⟨i, hi⟩ := List.getElem?_of_mem hx
 exact (Array.getElem?_eq_some_iff.1 (h.pgs i x hi).1).1
structure Oth (w w' : World) : Prop where
 size : w.heap.size <= w'.heap.size
 same : ∀ (k : Nat) (o : Obj), w.heap[k]? = some o -> (∀ c f, o ≠ .cells c 185 f) -> w'.heap[k]? = some o
theorem Oth.refl (w : World) : Oth w w := ⟨Nat.le_refl _, fun _ _ h _ => h⟩
theorem Oth.trans {a b c : World} (h : Oth a b) (k : Oth b c) : Oth a c := ⟨Nat.le_trans h.size k.size, fun i o hi ho => k.same i o (h.same i o hi ho) ho⟩
theorem Oth.keeps {a b : World} (h : Oth a b) : KeepsOthers a b := ⟨h.size, fun k o hk ho => h.same k o hk (fun c f e => by subst e; cases ho)⟩
theorem Oth.cell {a b : World} (h : Oth a b) {k j : Nat} {c : Array Value} {t : TypeId} {f : Nat × Nat} (hk : a.heap[k]? = some (.cells c t f)) (ht : t ≠ 185) : b.cell? ⟨k, j, none⟩ = a.cell? ⟨k, j, none⟩ := by
 have := h.same k _ hk (fun c' f' e => by injection e with _ e2; exact ht e2)
 simp [World.cell?, hk, this]
structure Fr (K : Nat -> Prop) (w w' : World) : Prop where
 size : w.heap.size <= w'.heap.size
 foe : ∀ k, K k -> k < w.heap.size -> w'.heap[k]? = w.heap[k]?
 same : ∀ (k : Nat) (o : Obj), w.heap[k]? = some o -> (∀ c f, o ≠ .cells c 185 f) -> (∀ c f, o ≠ .cells c 296 f) -> w'.heap[k]? = some o
theorem Fr.refl (w : World) : Fr K w w := ⟨Nat.le_refl _, fun _ _ _ => rfl, fun _ _ h _ _ => h⟩
theorem Fr.trans {a b c : World} (h : Fr K a b) (k : Fr K b c) : Fr K a c := ⟨Nat.le_trans h.size k.size, fun i hi hl => (k.foe i hi (Nat.lt_of_lt_of_le hl h.size)).trans (h.foe i hi hl), fun i o hi h1 h2 => k.same i o (h.same i o hi h1 h2) h1 h2⟩
theorem Fr.keeps {a b : World} (h : Fr K a b) : KeepsOthers a b := ⟨h.size, fun k o hk ho => h.same k o hk (fun c f e => by subst e; cases ho) (fun c f e => by subst e; cases ho)⟩
theorem Oth.fr {a b : World} (h : Oth a b) (hk : ∀ k, K k -> k < a.heap.size -> b.heap[k]? = a.heap[k]?) : Fr K a b := ⟨h.size, hk, fun k o hk h1 _ => h.same k o hk h1⟩
theorem Fr.below {a b : World} (h : Below a.heap.size a b) : Fr K a b := ⟨h.size, fun k _ hl => h.block k hl, fun k _ hk _ _ => (h.block k (Array.getElem?_eq_some_iff.1 hk).1).trans hk⟩
theorem Fr.block {a b : World} (h : Fr K a b) {k : Nat} {c : Array Value} {t : TypeId} {f : Nat × Nat} (hk : a.heap[k]? = some (.cells c t f)) (h1 : t ≠ 185) (h2 : t ≠ 296) : b.heap[k]? = some (.cells c t f) :=
 h.same k _ hk (fun c' f' e => by injection e with _ e2; exact h1 e2) (fun c' f' e => by injection e with _ e2; exact h2 e2)
def opB (x : Nat × Bool) (w : World) : Nat := if x.2 = true then x.1 else w.heap.size
set_option maxRecDepth 100000 in
set_option maxHeartbeats 1000000 in
theorem open_any (base Bb i : Nat) (d : List UInt8) (ls : List (Nat × Bool)) (w : World) (h : BAt K w base Bb d ls) (x : Nat × Bool) (hi : ls[i]? = some x) :
 Calls Tryz.prog 227 #[.pointer (some ⟨Bb, 0, none⟩), .int .i64 i] w fun e w' => e = .returned (.pointer (some ⟨opB x w, 0, none⟩)) /\ BAt K w' base Bb d (ls.set i (opB x w, true)) /\ Below base w w' /\ Oth w w' /\ ∀ k, K k -> k < w.heap.size -> w'.heap[k]? = w.heap[k]? := by
 have H := Lib.hid h
 obtain ⟨v, hv, hr⟩ := h.blk
 have hil : i < ls.length := (List.getElem?_eq_some_iff.1 hi).1
 obtain ⟨hp, hpb⟩ := h.pgs i x hi
 have hlen := h.len
 have hcnt := h.cnt
 obtain ⟨px, own⟩ := x
 obtain ⟨e0, e1⟩ := lfs_at ls i (px, own) hi
 obtain ⟨g, cap, rfl⟩ : ∃ g cap, v = .slice (some ⟨g, 0, none⟩) ls.length cap := by
  rcases hr.2 with ⟨_, h⟩ | ⟨g, cap, _, h, _⟩
  · omega
  · exact ⟨g, cap, h⟩
 have c1 : w.cell? ⟨Bb, 1, none⟩ = some (.slice (some ⟨g, 0, none⟩) ls.length cap) := by simp [World.cell?, hv]
 have r0 : w.cell? ⟨g, i * 2, none⟩ = some (.pointer (some ⟨px, 0, none⟩)) := (hr.cellAt (i * 2) (by omega)).trans e0
 have r1 : w.cell? ⟨g, i * 2 + 1, none⟩ = some (.bool own) := (hr.cellAt (i * 2 + 1) (by omega)).trans e1
 have hii : (i : Int) < (ls.length : Int) := by omega
 have hgl : g < w.heap.size := (hr.lt g rfl).2
 have f0 : w.frozen? ⟨g, i * 2, none⟩ = false := hr.frozenAt _
 have f1 : w.frozen? ⟨g, i * 2 + 1, none⟩ = false := hr.frozenAt _
 cases own with
 | true =>
  clear hv hr hp
  go_enter Tryz.func227, Tryz.ntmps227
  go_wp2
  go_ret
  refine ⟨rfl, ?_, Below.refl _ _, Oth.refl _, fun _ _ _ => rfl⟩
  show BAt K w base Bb d (ls.set i (px, true))
  rw [show ls.set i (px, true) = ls from by apply List.ext_getElem?; intro k; rw [List.getElem?_set]; split <;> simp_all]
  exact H.out
 | false =>
  have hsz : (Tryz.prog.info? 296).map (·.size) = some (u8s (pad d i)).toArray.size := by
   rw [show (u8s (pad d i)).toArray.size = 64 from by simp [u8s, pad]]; kernel_rfl
  have hsc : (storeCells ⟨w.heap.size, 0, none⟩ (u8s (pad d i))).run Tryz.prog (w.alloc (.cells #[.int .u8 0, .int .u8 0, .int .u8 0, .int .u8 0, .int .u8 0, .int .u8 0, .int .u8 0, .int .u8 0, .int .u8 0, .int .u8 0, .int .u8 0, .int .u8 0, .int .u8 0, .int .u8 0, .int .u8 0, .int .u8 0, .int .u8 0, .int .u8 0, .int .u8 0, .int .u8 0, .int .u8 0, .int .u8 0, .int .u8 0, .int .u8 0, .int .u8 0, .int .u8 0, .int .u8 0, .int .u8 0, .int .u8 0, .int .u8 0, .int .u8 0, .int .u8 0, .int .u8 0, .int .u8 0, .int .u8 0, .int .u8 0, .int .u8 0, .int .u8 0, .int .u8 0, .int .u8 0, .int .u8 0, .int .u8 0, .int .u8 0, .int .u8 0, .int .u8 0, .int .u8 0, .int .u8 0, .int .u8 0, .int .u8 0, .int .u8 0, .int .u8 0, .int .u8 0, .int .u8 0, .int .u8 0, .int .u8 0, .int .u8 0, .int .u8 0, .int .u8 0, .int .u8 0, .int .u8 0, .int .u8 0, .int .u8 0, .int .u8 0, .int .u8 0] 296)) = .ok () (w.alloc (.cells (u8s (pad d i)).toArray 296)) := by
   have := run_storeCells_new (P := Tryz.prog) w 296 #[.int .u8 0, .int .u8 0, .int .u8 0, .int .u8 0, .int .u8 0, .int .u8 0, .int .u8 0, .int .u8 0, .int .u8 0, .int .u8 0, .int .u8 0, .int .u8 0, .int .u8 0, .int .u8 0, .int .u8 0, .int .u8 0, .int .u8 0, .int .u8 0, .int .u8 0, .int .u8 0, .int .u8 0, .int .u8 0, .int .u8 0, .int .u8 0, .int .u8 0, .int .u8 0, .int .u8 0, .int .u8 0, .int .u8 0, .int .u8 0, .int .u8 0, .int .u8 0, .int .u8 0, .int .u8 0, .int .u8 0, .int .u8 0, .int .u8 0, .int .u8 0, .int .u8 0, .int .u8 0, .int .u8 0, .int .u8 0, .int .u8 0, .int .u8 0, .int .u8 0, .int .u8 0, .int .u8 0, .int .u8 0, .int .u8 0, .int .u8 0, .int .u8 0, .int .u8 0, .int .u8 0, .int .u8 0, .int .u8 0, .int .u8 0, .int .u8 0, .int .u8 0, .int .u8 0, .int .u8 0, .int .u8 0, .int .u8 0, .int .u8 0, .int .u8 0] (u8s (pad d i)).toArray hsz (by rw [show (u8s (pad d i)).toArray.size = 64 from by simp [u8s, pad]]; rfl) (by simp [u8s]; intros; rfl)
   simpa using this
  go_enter Tryz.func227, Tryz.ntmps227
  go_wp2_with (refine wpList_load_row rfl 296 _ rfl px rfl 296 _ (0, 0) _ hp Tryz.underlying296 rfl hsz ?_)
  go_ret
  have hgh : ∃ cur, w.heap[g]? = some (.cells cur 185 (0, 0)) := by
   rcases hr.2 with ⟨h', _⟩ | ⟨g', cap', cur, h', _, hg, _⟩
   · simp at h'
   · simp only [Value.slice.injEq, Option.some.injEq, Addr.mk.injEq, and_true, true_and] at h'
     obtain ⟨rfl, rfl⟩ := h'
     exact ⟨cur, hg⟩
  obtain ⟨cur, hgh⟩ := hgh
  obtain ⟨s1, _⟩ := hr.stored (i * 2) (.pointer (some ⟨w.heap.size, 0, none⟩))
  obtain ⟨s2, _⟩ := s1.stored (i * 2 + 1) (.bool true)
  rw [lfs_set ls i (w.heap.size, true) hil] at s2
  have hne : ∀ k o, w.heap[k]? = some o -> (∀ c f, o ≠ .cells c 185 f) -> k ≠ g := fun k o hk ho e => by
   subst e; rw [hgh] at hk; cases hk; exact ho _ _ rfl
  have hso : ∀ k, k ≠ g -> k < w.heap.size -> (((w.setCell ⟨g, i * 2, none⟩ (.pointer (some ⟨w.heap.size, 0, none⟩))).setCell ⟨g, i * 2 + 1, none⟩ (.bool true)).alloc (.cells (u8s (pad d i)).toArray 296)).heap[k]? = w.heap[k]? := fun k hk hlt => by
   rw [Below.heap_alloc _ _ _ (by simpa using hlt), heap_setCell_ne _ _ _ hk, heap_setCell_ne _ _ _ hk]
  have hKg : ¬ K g := H.out.foe.row _ _ _ ⟨g, 0, none⟩ _ _ hv rfl
  have hBbs := hso Bb (hne Bb _ hv (fun c f e => by cases e)) (Array.getElem?_eq_some_iff.1 hv).1
  refine ⟨rfl, ⟨⟨.slice (some ⟨g, 0, none⟩) ls.length cap, ?_, ?_⟩, ?_, ?_, hlen, ?_, H.out.bb, ⟨fun k hk => Nat.lt_of_lt_of_le (H.out.foe.old k hk) (by simp), fun x hx hk => ?_, fun c t f a n cp e => H.out.foe.row c t f a n cp (hBbs.symm.trans e)⟩⟩, ?_, ?_, ?_⟩
  · rw [hso Bb (hne Bb _ hv (fun c f e => by cases e)) (Array.getElem?_eq_some_iff.1 hv).1, hv]
  · rw [List.length_set]; exact s2.alloc _
  · intro k x hk
    rw [List.getElem?_set] at hk
    split at hk
    · subst k
      obtain rfl : (w.heap.size, true) = x := by simpa [hil, opB] using hk
      refine ⟨?_, fun _ => ?_⟩
      · have := heap_new ((w.setCell ⟨g, i * 2, none⟩ (.pointer (some ⟨w.heap.size, 0, none⟩))).setCell ⟨g, i * 2 + 1, none⟩ (.bool true)) (.cells (u8s (pad d i)).toArray 296)
        simpa using this
      · exact Nat.le_trans (hr.lt g rfl).1 (Nat.le_of_lt hgl)
    · obtain ⟨h1, h2⟩ := H.out.pgs k x hk
      exact ⟨(hso x.1 (hne _ _ h1 (fun c f e => by cases e)) (Array.getElem?_eq_some_iff.1 h1).1).trans h1, h2⟩
  · exact nodup_set H.out.dis (fun x hx => Nat.ne_of_lt (H.out.lt hx))
  · rw [List.length_set]; exact hcnt
  · rcases List.mem_or_eq_of_mem_set hx with h1 | rfl
    · exact H.out.foe.pg x h1 hk
    · exact Nat.lt_irrefl _ (H.out.foe.old _ hk)
  · have hb0 := (hr.lt g rfl).1
    exact (((Below.refl base w).setCell (p := ⟨g, i * 2, none⟩) hb0 _).setCell (p := ⟨g, i * 2 + 1, none⟩) hb0 _).alloc (by simp; omega) _
  · exact ⟨by simp, fun k o hk ho => (hso k (hne k o hk ho) (Array.getElem?_eq_some_iff.1 hk).1).trans hk⟩
  · exact fun k hk hl => hso k (fun e => hKg (e ▸ hk)) hl
def over (d : List UInt8) (a : Nat) (s : List UInt8) : List UInt8 := (List.range d.length).map fun j => if a <= j /\ j - a < s.length then s.getD (j - a) 0 else d.getD j 0
theorem over_len (d : List UInt8) (a : Nat) (s : List UInt8) : (over d a s).length = d.length := by unfold over; simp
theorem over_get (d : List UInt8) (a : Nat) (s : List UInt8) (j : Nat) (hj : j < d.length) : (over d a s).getD j 0 = if a <= j /\ j - a < s.length then s.getD (j - a) 0 else d.getD j 0 := by
 unfold over; rw [List.getD_eq_getElem?_getD, List.getElem?_map, List.getElem?_range hj]; rfl
theorem over_out (d : List UInt8) (a : Nat) (s : List UInt8) (j : Nat) (hj : d.length <= j) : (over d a s).getD j 0 = 0 := by
 rw [List.getD_eq_getElem?_getD, List.getElem?_eq_none (by rw [over_len]; exact hj)]; rfl
theorem ext_getD {l m : List UInt8} (h : l.length = m.length) (hg : ∀ j, j < l.length -> l.getD j 0 = m.getD j 0) : l = m := by
 apply List.ext_getElem h
 intro i h1 h2
 have := hg i h1
 rwa [List.getD_eq_getElem?_getD, List.getD_eq_getElem?_getD, List.getElem?_eq_getElem h1, List.getElem?_eq_getElem h2] at this
theorem getD_take (s : List UInt8) (n j : Nat) (h : j < n) : (s.take n).getD j 0 = s.getD j 0 := by
 rw [List.getD_eq_getElem?_getD, List.getD_eq_getElem?_getD, List.getElem?_take_of_lt h]
theorem getD_drop (s : List UInt8) (n j : Nat) : (s.drop n).getD j 0 = s.getD (n + j) 0 := by
 rw [List.getD_eq_getElem?_getD, List.getD_eq_getElem?_getD, List.getElem?_drop]
theorem over_nil (d : List UInt8) (a : Nat) : over d a [] = d := ext_getD (over_len _ _ _) (fun j hj => by rw [over_len] at hj; rw [over_get d a [] j hj, if_neg (by simp)])
theorem over_over (d : List UInt8) (a n : Nat) (s : List UInt8) (hn : n <= s.length) : over (over d a (s.take n)) (a + n) (s.drop n) = over d a s := by
 refine ext_getD (by simp [over_len]) (fun j hj => ?_)
 rw [over_len, over_len] at hj
 rw [over_get _ _ _ _ (by rw [over_len]; exact hj), over_get _ _ _ _ hj, over_get _ _ _ _ hj]
 simp only [List.length_take, List.length_drop]
 by_cases h1 : a + n <= j /\ j - (a + n) < s.length - n
 · rw [if_pos h1, if_pos (by omega), getD_drop]; congr 1; omega
 · rw [if_neg h1]
   by_cases h2 : a <= j /\ j - a < min n s.length
   · rw [if_pos h2, if_pos (by omega), getD_take _ _ _ (by omega)]
   · rw [if_neg h2, if_neg (by omega)]
def stepP (e : Nat) (p : List UInt8 × List UInt8) (x : Nat) : List UInt8 × List UInt8 := (over p.1 x (p.2.take (nx e x - x)), p.2.drop (nx e x - x))
def runP (e : Nat) (d s : List UInt8) (pre : List Nat) : List UInt8 × List UInt8 := pre.foldl (stepP e) (d, s)
theorem runP_snoc (e : Nat) (d s : List UInt8) (pre : List Nat) (x : Nat) : runP e d s (pre ++ [x]) = stepP e (runP e d s pre) x := by unfold runP; rw [List.foldl_append]; rfl
theorem fold_len (e : Nat) : ∀ (pre : List Nat) (p : List UInt8 × List UInt8), (pre.foldl (stepP e) p).1.length = p.1.length
 | [], _ => rfl
 | x :: l, p => by rw [List.foldl_cons, fold_len e l]; exact over_len _ _ _
theorem runP_len (e : Nat) (d s : List UInt8) (pre : List Nat) : (runP e d s pre).1.length = d.length := fold_len e pre (d, s)
theorem runP_chn : ∀ (k e f : Nat) (d s : List UInt8), e - f <= k -> s.length = e - f -> (runP e d s (chn k e f)).1 = over d f s
 | 0, e, f, d, s, hk, hs => by
  have : s = [] := List.eq_nil_of_length_eq_zero (by omega)
  subst this; show d = _; rw [over_nil]
 | k + 1, e, f, d, s, hk, hs => by
  unfold chn
  split
  · rename_i h
    have h1 := nx_lt h
    have h2 := nx_le e f
    show (runP e (over d f (s.take (nx e f - f))) (s.drop (nx e f - f)) (chn k e (nx e f))).1 = _
    rw [runP_chn k e (nx e f) _ _ (by omega) (by rw [List.length_drop]; omega)]
    have := over_over d f (nx e f - f) s (by omega)
    rwa [show f + (nx e f - f) = nx e f from by omega] at this
  · have : s = [] := List.eq_nil_of_length_eq_zero (by omega)
    subst this; show d = _; rw [over_nil]
theorem runP_all (a : Nat) (d s : List UInt8) : (runP (a + s.length) d s (allPc a (a + s.length))).1 = over d a s := runP_chn _ _ _ _ _ (by omega) (by omega)
theorem pad_over_ne (d t : List UInt8) (x k : Nat) (hx : x % 64 + t.length <= 64) (hk : k ≠ x / 64) : pad (over d x t) k = pad d k := by
 unfold pad
 apply List.map_congr_left
 intro j hj
 rw [List.mem_range] at hj
 by_cases h : 64 * k + j < d.length
 · rw [over_get _ _ _ _ h, if_neg (by omega)]
 · rw [over_out _ _ _ _ (by omega), List.getD_eq_getElem?_getD, List.getElem?_eq_none (by omega)]; rfl
theorem pad_over_at (d t : List UInt8) (x : Nat) (hx : x % 64 + t.length <= 64) (hd : x + t.length <= d.length) : pad (over d x t) (x / 64) = (pad d (x / 64)).take (x % 64) ++ t ++ (pad d (x / 64)).drop (x % 64 + t.length) := by
 refine ext_getD (by simp [pad_len]; omega) (fun j hj => ?_)
 rw [pad_len] at hj
 have hp : ∀ (d : List UInt8) (i j : Nat), j < 64 -> (pad d i).getD j 0 = d.getD (64 * i + j) 0 := fun d i j hj => by
  unfold pad; rw [List.getD_eq_getElem?_getD, List.getElem?_map, List.getElem?_range hj]; rfl
 rw [hp _ _ _ hj]
 rw [List.getD_eq_getElem?_getD (l := _ ++ _ ++ _), List.getElem?_append, List.getElem?_append]
 simp only [List.length_append, List.length_take, pad_len]
 by_cases h1 : j < x % 64
 · rw [if_pos (by omega), if_pos (by omega), List.getElem?_take_of_lt h1, <- List.getD_eq_getElem?_getD, hp _ _ _ hj]
   by_cases h : 64 * (x / 64) + j < d.length
   · rw [over_get _ _ _ _ h, if_neg (by omega)]
   · rw [over_out _ _ _ _ (by omega), List.getD_eq_getElem?_getD, List.getElem?_eq_none (by omega)]; rfl
 · by_cases h2 : j < x % 64 + t.length
   · rw [if_pos (by omega), if_neg (by omega), over_get _ _ _ _ (by omega), if_pos (by omega), <- List.getD_eq_getElem?_getD]; congr 1; omega
   · rw [if_neg (by omega), List.getElem?_drop, show x % 64 + t.length + (j - (min (x % 64) 64 + t.length)) = j from by omega, <- List.getD_eq_getElem?_getD, hp _ _ _ hj]
     by_cases h : 64 * (x / 64) + j < d.length
     · rw [over_get _ _ _ _ h, if_neg (by omega)]
     · rw [over_out _ _ _ _ (by omega), List.getD_eq_getElem?_getD, List.getElem?_eq_none (by omega)]; rfl
set_option maxRecDepth 100000 in
theorem slice_page (pb lo hi : Nat) (w : World) (h1 : lo <= hi) (h2 : hi <= 64) (h3 : lo < 64) : (Instr.sliceAt 296 (.pointer (some ⟨pb, 0, none⟩)) (some (.int .i64 (lo : Int))) (some (.int .i64 (hi : Int))) none).run Tryz.prog w = .ok (.slice (some ⟨pb, lo, none⟩) (hi - lo) (64 - lo)) w := by
 have ha : Tryz.prog.arrayLen 296 = 64 := by kernel_rfl
 have he : Tryz.prog.elem 296 = 5 := by kernel_rfl
 have hz : (Go.sizeOf 5).run Tryz.prog w = .ok 1 w := by
  obtain ⟨i, hi⟩ := Option.isSome_iff_exists.1 (show (Tryz.prog.info? 5).isSome = true by kernel_rfl)
  have hs : (Tryz.prog.info? 5).map (·.size) = some 1 := by kernel_rfl
  rw [hi] at hs
  simp only [Option.map_some, Option.some.injEq] at hs
  simp [Go.sizeOf, typeInfo, hi, hs]
 have := run_sliceAt_array_lh (P := Tryz.prog) w 296 ⟨pb, 0, none⟩ (by kernel_rfl) .i64 .i64 lo hi (by omega) (by omega) (by rw [ha]; omega)
 rw [this, he, hz]
 simp only [Result.andThen, slicedAt, Int.toNat_natCast, ha, Nat.mul_one]
 rw [if_neg (by omega)]
 congr 3
 unfold Addr.add; split <;> simp_all
end Go.Proofs.YtmgfakfiiaeofaaGreat.Pg
