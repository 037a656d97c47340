/- What becomes of the rooms when an alert is left, taken, or all of a thread are forgotten. -/
import Derived.Test.YtmgfakfiiaeofaaGreatHoCut
import Derived.Test.YtmgfakfiiaeofaaGreatProg
import Derived.WalkKit
import Derived.WalkSpells
import Derived.WalkLawsBesides
import Derived.Handy
import Derived.BigQuiet
import Derived.Lib.Hide
import Derived.Shelf.SlSortCmp.QuietGrown
import Derived.OwnWalk
import Derived.Laws.AppendOwn
import Derived.Laws.OwnMore
import Derived.Maps.OwnSet
import Derived.Maps.OwnOps
import Derived.Maps.AppendAt
import Derived.DeepKeys4
import Derived.Deep.QuietTactic
import Derived.Deep.RegionLaw
import Derived.StillTail
import Derived.Deep.Quiet
import Derived.Deep.Cut
import Derived.RangeFuncNested
import Derived.RangeFuncBound
import Derived.RangeFuncCalls
import Derived.RangeFuncLeaves
import Derived.RangeFuncBox
import Derived.RangeFuncWrites
import Derived.OwnWalkIn
import Derived.TacticsInMore
import Derived.LoopNIn
import Derived.LoopIn
import Derived.Outline
import Derived.BigRegionIn
import Derived.OrdersIn
import Derived.TacticsIn
import Derived.Orders
/- entry, Has, List, Drop and Shift of package hold where an entry isn't there; List of a container. -/
namespace Go.Proofs.YtmgfakfiiaeofaaGreat.Ho
open Go.RowKit Go.Sort
def entE (T : Tab) (i x : Int) : Int := match T i with
 | none => 4
 | some r => if r.ob.kind = 1 then (if r.ob.ents.contains x = true then 0 else 4) else 5
theorem entE_cont {T : Tab} {i : Int} (x : Int) (h : contE T i ≠ 0) : entE T i x = contE T i := by
 unfold entE contE at *
 cases hT : T i with
 | none => rfl
 | some r =>
  rw [hT] at h
  simp only at h |-
  by_cases hk : r.ob.kind = 1
  · rw [if_pos hk] at h; exact absurd rfl h
  · rw [if_neg hk, if_neg hk]
set_option maxRecDepth 100000 in
set_option maxHeartbeats 1000000 in
theorem entry_no {w : World} {base tb mb : Nat} {D : DataW Unit} {T : Tab} (h : TAt w base tb mb D T) (i x : Int) (hi : i64 i) (hl : ∀ r, T i = some r -> r.ob.ents.length < 1000000) (he : entE T i x ≠ 0) :
 Calls Tryz.prog 181 #[.pointer (some ⟨tb, 0, none⟩), .int .i64 i, .int .i64 x] w fun e w' => e = .returned (.tuple #[.pointer none, .pointer none, .int .i64 (entE T i x)]) /\ w' = w := by
 have HC := container_any h i hi
 by_cases hc : contE T i = 0
 · obtain ⟨r, hT, hk⟩ : ∃ r, T i = some r /\ r.ob.kind = 1 := by
    unfold contE at hc
    cases hT : T i with
    | none => rw [hT] at hc; simp at hc
    | some r =>
     rw [hT] at hc
     simp only at hc
     by_cases hk : r.ob.kind = 1
     · exact ⟨r, rfl, hk⟩
     · rw [if_neg hk] at hc; simp at hc
   have hno : r.ob.ents.contains x = false := by
    unfold entE at he
    rw [hT] at he
    simp only [hk, if_true] at he
    by_cases hh : r.ob.ents.contains x = true
    · rw [if_pos hh] at he; exact absurd rfl he
    · simpa using hh
   have he4 : entE T i x = 4 := by unfold entE; rw [hT]; simp only [hk, if_true, hno]; rfl
   rw [show contP T i = .pointer (some ⟨r.B, 0, none⟩) from by unfold contP fnd; rw [if_pos hc, hT]; rfl, hc] at HC
   have H1 := Lib.hid HC
   have H2 := has_any (h.obj i r hT).1 x (hl r hT)
   rw [hno] at H2
   have H3 := Lib.hid H2
   rw [he4]
   clear h HC H2 he he4
   go_enter Tryz.func181, Tryz.ntmps181
   go_wp2_with (first
    | (go_at_call 34; refine H1.out.mono ?_; rintro e w1 ⟨rfl, hw1⟩; rw [hw1]; clear hw1 w1)
    | (go_at_call 180; refine H3.out.mono ?_; rintro e w1 ⟨rfl, hw1⟩; rw [hw1]; clear hw1 w1))
   refine bodyPost_ret (by simp [results, Tryz.results181, go_sem]) rfl ⟨rfl, rfl⟩
 · rw [entE_cont x hc]
   rw [show contP T i = .pointer none from by unfold contP; rw [if_neg hc]] at HC
   obtain ⟨c, hce⟩ : ∃ c, contE T i = c := ⟨_, rfl⟩
   rw [hce] at HC hc |-
   have H1 := Lib.hid HC
   have hcb : (c != 0) = true := by simpa using hc
   clear h HC he
   go_enter Tryz.func181, Tryz.ntmps181
   go_wp2_with (first
    | (go_at_call 34; refine H1.out.mono ?_; rintro e w1 ⟨rfl, hw1⟩; rw [hw1]; clear hw1 w1))
   refine bodyPost_ret (by simp [results, Tryz.results181, go_sem]) rfl ⟨rfl, rfl⟩
set_option maxRecDepth 100000 in
set_option maxHeartbeats 1000000 in
theorem Has_any {w : World} {base tb mb : Nat} {D : DataW Unit} {T : Tab} (h : TAt w base tb mb D T) (i x : Int) (hi : i64 i) (hx : i64 x) (hl : ∀ r, T i = some r -> r.ob.ents.length < 1000000) :
 Calls Tryz.prog 177 #[.pointer (some ⟨tb, 0, none⟩), .int .i64 i, .int .i64 x] w fun e w' => e = .returned (.bool (entE T i x == 0)) /\ w' = w := by
 by_cases he : entE T i x = 0
 · obtain ⟨r, hT, hk, hc⟩ : ∃ r, T i = some r /\ r.ob.kind = 1 /\ r.ob.ents.contains x = true := by
    unfold entE at he
    cases hT : T i with
    | none => rw [hT] at he; simp at he
    | some r =>
     rw [hT] at he
     simp only at he
     by_cases hk : r.ob.kind = 1
     · rw [if_pos hk] at he
       by_cases hh : r.ob.ents.contains x = true
       · exact ⟨r, rfl, hk, hh⟩
       · rw [if_neg hh] at he; simp at he
     · rw [if_neg hk] at he; simp at he
   have H := Lib.hid (entry_ok h i x hi hx r hT hk (hl r hT) hc)
   rw [he]
   clear h he
   go_enter Tryz.func177, Tryz.ntmps177
   go_wp2_with (go_at_call 181; refine H.out.mono ?_; rintro e w1 ⟨rfl, hw1⟩; rw [hw1]; clear hw1 w1)
   go_ret
   exact ⟨rfl, rfl⟩
 · have H := entry_no h i x hi hl he
   obtain ⟨c, hce⟩ : ∃ c, entE T i x = c := ⟨_, rfl⟩
   rw [hce] at H he |-
   have H1 := Lib.hid H
   have hcb : (c == 0) = false := by simpa using he
   rw [hcb]
   clear h H
   go_enter Tryz.func177, Tryz.ntmps177
   go_wp2_with (go_at_call 181; refine H1.out.mono ?_; rintro e w1 ⟨rfl, hw1⟩; rw [hw1]; clear hw1 w1)
   go_ret
   exact ⟨rfl, rfl⟩
end Go.Proofs.YtmgfakfiiaeofaaGreat.Ho
/- Memory facts: blocks, rows, maps of pointers; what a call leaves as it was. -/
namespace Go.Proofs.YtmgfakfiiaeofaaGreat.Wa
open Go.RowKit Go.Sort
open Go.Maps (Keyed)
theorem heap_ne (w : World) (a : Addr) (v : Value) {k : Nat} (h : k ≠ a.block) : (w.setCell a v).heap[k]? = w.heap[k]? := by
 show (w.heap.modify a.block _)[k]? = _
 rw [Array.getElem?_modify, if_neg (Ne.symm h)]
theorem heap_new (w : World) (o : Obj) : (w.alloc o).heap[w.heap.size]? = some o := by show (w.heap.push o)[w.heap.size]? = _; simp
theorem heap_lt {w : World} {k : Nat} {o : Obj} (h : w.heap[k]? = some o) : k < w.heap.size := (Array.getElem?_eq_some_iff.1 h).1
def i64 (n : Int) : Prop := -9223372036854775808 <= n /\ n <= 9223372036854775807
theorem wf64 {n : Int} (h : i64 n) : (Lit.int .i64 n).wf = true := by
 simp [Lit.wf]
 have h1 : IntKind.min .i64 = -9223372036854775808 := by decide
 have h2 : IntKind.max .i64 = 9223372036854775807 := by decide
 unfold i64 at h
 omega
structure Fm (w w' : World) (F : Nat -> Prop) : Prop where
 os : w'.os = w.os
 tape : w'.tape = w.tape
 output : w'.output = w.output
 size : w.heap.size <= w'.heap.size
 same : ∀ k, k < w.heap.size -> ¬ F k -> w'.heap[k]? = w.heap[k]?
theorem Fm.refl (w : World) (F : Nat -> Prop) : Fm w w F := ⟨rfl, rfl, rfl, Nat.le_refl _, fun _ _ _ => rfl⟩
theorem Fm.trans {a b c : World} {F G H : Nat -> Prop} (h : Fm a b F) (k : Fm b c G) (hF : ∀ i, i < a.heap.size -> F i -> H i) (hG : ∀ i, i < a.heap.size -> G i -> H i) : Fm a c H :=
 ⟨k.os.trans h.os, k.tape.trans h.tape, k.output.trans h.output, Nat.le_trans h.size k.size, fun i hi hn => (k.same i (Nat.lt_of_lt_of_le hi h.size) (fun g => hn (hG i hi g))).trans (h.same i hi (fun g => hn (hF i hi g)))⟩
theorem Fm.mono {a b : World} {F G : Nat -> Prop} (h : Fm a b F) (hF : ∀ i, i < a.heap.size -> F i -> G i) : Fm a b G :=
 ⟨h.os, h.tape, h.output, h.size, fun i hi hn => h.same i hi (fun g => hn (hF i hi g))⟩
theorem Fm.of_grown {a b : World} {m : Nat} (h : a.grownBy b (some m)) : Fm a b (fun k => k = m) :=
 ⟨h.os, h.tape, h.output, h.size, fun i hi hn => h.block i hi (by simpa using hn)⟩
theorem Fm.alloc (w : World) (o : Obj) (F : Nat -> Prop) : Fm w (w.alloc o) F := ⟨rfl, rfl, rfl, by simp, fun _ hk _ => Below.heap_alloc _ _ _ hk⟩
theorem Fm.setCell (w : World) (a : Addr) (v : Value) : Fm w (w.setCell a v) (fun k => k = a.block) := ⟨rfl, rfl, rfl, by simp, fun _ _ hn => heap_ne _ _ _ hn⟩
theorem Fm.below {w w' : World} {F : Nat -> Prop} {b : Nat} (h : Fm w w' F) (hb : b <= w.heap.size) (hF : ∀ k, k < b -> ¬ F k) : Below b w w' :=
 ⟨h.os, h.tape, h.output, h.size, fun k hk => h.same k (Nat.lt_of_lt_of_le hk hb) (hF k hk)⟩
theorem Fm.of_below {w w' : World} (h : Below w.heap.size w w') (F : Nat -> Prop) : Fm w w' F := ⟨h.os, h.tape, h.output, h.size, fun k hk _ => h.block k hk⟩
abbrev pv (B : Nat) : Value := .pointer (some ⟨B, 0, none⟩)
abbrev np : Value := .pointer none
def pt (o : Option Nat) : Value := .pointer (o.map fun B => ⟨B, 0, none⟩)
def ptrE : Value -> Option (DataW Unit × List MemPlace)
 | .pointer none => some (.lit (.int .i64 (-1)), [])
 | .pointer (some ⟨B, 0, none⟩) => some (.lit (.int .i64 B), [])
 | _ => none
theorem ptrE_inv {v : Value} {B : Nat} {ps : List MemPlace} (h : ptrE v = some (.lit (.int .i64 B), ps)) : v = .pointer (some ⟨B, 0, none⟩) := by
 unfold ptrE at h
 split at h
 · simp at h
 · simp at h
   have := h.1
   have e := Int.ofNat.inj this
   subst e; rfl
 · cases h
theorem ptrE_nil {v : Value} {ps : List MemPlace} (h : ptrE v = some (.lit (.int .i64 (-1)), ps)) : v = .pointer none := by
 unfold ptrE at h
 split at h
 · rfl
 · simp at h
 · cases h
def MAt (w : World) (t : TypeId) (m n : Nat) (f : Lit -> Option Nat) : Prop := ∃ D : DataW Unit, w.ownsMap Tryz.prog t ptrE m n D /\ Maps.size D = n /\ ∀ k, WideAt.IsKeyLit k -> Maps.has D k = (f k).isSome /\ ∀ B, f k = some B -> ∀ z, D.atKey k z = .lit (.int .i64 (B : Int))
open Classical in
noncomputable def updF (f : Lit -> Option Nat) (k : Lit) (o : Option Nat) : Lit -> Option Nat := fun x => if x = k then o else f x
section
variable {w : World} {t e T : TypeId} {m n : Nat} {f : Lit -> Option Nat} {key : Value} {kl : Lit}
theorem MAt.lt (h : MAt w t m n f) : m < w.heap.size := by obtain ⟨D, h, _⟩ := h; exact h.lt
theorem MAt.same {w' : World} (h : MAt w t m n f) (hs : w'.heap[m]? = w.heap[m]?) : MAt w' t m n f := by
 obtain ⟨D, ⟨es, clock, hb, r⟩, r2⟩ := h
 exact ⟨D, ⟨es, clock, hs.trans hb, r⟩, r2⟩
theorem MAt.congr (h : MAt w t m n f) {g : Lit -> Option Nat} (hg : ∀ k, WideAt.IsKeyLit k -> g k = f k) : MAt w t m n g := by
 obtain ⟨D, h1, h2, h3⟩ := h
 exact ⟨D, h1, h2, fun k hk => by rw [hg k hk]; exact h3 k hk⟩
theorem MAt.made (w : World) (t : TypeId) : MAt (w.alloc (.map #[] 0)) t w.heap.size 0 (fun _ => none) :=
 ⟨.map [], World.ownsMap_made (H := Unit) w Tryz.prog t ptrE, rfl, fun k hk => ⟨rfl, fun B h => by cases h⟩⟩
theorem MAt.look (h : MAt w t m n f) (K : Keyed Tryz.prog t) (hT : Tryz.prog.underlying T = some (.map t e)) (hz : (zeroValue e).run Tryz.prog w = .ok np w) (hkey : keyOf Tryz.prog t key = some kl) :
 (Instr.lookup T (.map (some m)) key false).run Tryz.prog w = .ok (pt (f kl)) w := by
 obtain ⟨D, h1, _, h3⟩ := h
 obtain ⟨v, ps, hrun, hv⟩ := h1.lookup K hT hz (zd := .lit (.int .i64 (-1))) (zp := []) rfl hkey
 obtain ⟨ha, hb⟩ := h3 kl (K.key hkey)
 have hv2 : v = pt (f kl) := by
  cases hT : f kl with
  | none =>
   have hh : Maps.has D kl = false := by rw [ha, hT]; rfl
   rw [Maps.atKey_of_not_has hh] at hv
   exact ptrE_nil hv
  | some B =>
   rw [hb B hT] at hv
   exact ptrE_inv hv
 rw [hrun, hv2]
theorem MAt.len (h : MAt w t m n f) (hT : Tryz.prog.underlying T = some (.map t e)) (ty : TypeId) : (Builtin.len_ #[T] ty #[.map (some m)]).run Tryz.prog w = .ok (.int .i64 n) w := by
 obtain ⟨D, h1, h2, _⟩ := h
 rw [<- h2]; exact h1.len hT ty
theorem MAt.put (h : MAt w t m n f) (K : Keyed Tryz.prog t) (hT : Tryz.prog.underlying T = some (.map t e)) (hn : n < 1000000) (hkey : keyOf Tryz.prog t key = some kl) (B : Nat) :
 ∃ w', (Instr.mapUpdate T (.map (some m)) key (pv B)).run Tryz.prog w = .ok () w' /\ MAt w' t m (if (f kl).isSome then n else n + 1) (updF f kl (some B)) /\ w.grownBy w' (some m) /\ w'.heap.size = w.heap.size := by
 obtain ⟨D, h1, h2, h3⟩ := h
 obtain ⟨w', hrun, hm, hg⟩ := h1.store K hT (by unfold maxLen; omega) hkey (val := pv B) (d := .lit (.int .i64 (B : Int))) (ps := []) rfl
 have hkl := K.key hkey
 have hsz : Maps.size (D.put kl (.lit (.int .i64 (B : Int)))) = if (f kl).isSome then n else n + 1 := by
  rw [Maps.size_put (h1.tidy K), (h3 kl hkl).1, h2]
  try rfl
 have hs : w'.heap.size = w.heap.size := by
  obtain ⟨_, _, _, _, _, rfl⟩ := hg
  unfold ChangeMaps.setBlock; simp
 refine ⟨w', hrun, ⟨_, ?_, hsz, ?_⟩, hg.grown, hs⟩
 · obtain ⟨es, clock, hb, F, hle, hD⟩ := hm
   refine ⟨es, clock, hb, F, ?_, hD⟩
   have : Maps.size (D.put kl (.lit (.int .i64 (B : Int)))) = es.size := by rw [hD]; simp [Maps.size, length_sorted]
   omega
 · intro k hk
   unfold updF
   by_cases hkk : k = kl
   · subst hkk
     rw [if_pos rfl]
     exact ⟨by rw [Maps.has_put_same h1.isMap hkl]; rfl, fun B' hB' z => by cases hB'; exact Maps.atKey_put_same h1.isMap hkl _ _⟩
   · rw [if_neg hkk]
     exact ⟨by rw [Maps.has_put_other (by simpa using hkk)]; exact (h3 k hk).1, fun B' hB' z => by rw [Maps.atKey_put_other (by simpa using hkk)]; exact (h3 k hk).2 B' hB' z⟩
end
theorem ui : Tryz.prog.underlying 3 = some (.int .i64) := by kernel_rfl
theorem keyedI : Keyed Tryz.prog 3 := Maps.int_keyed ui
abbrev ky (k : Int) : Lit := .int .i64 k
theorem keyI {n : Int} (h : i64 n) : keyOf Tryz.prog 3 (.int .i64 n) = some (ky n) := Maps.keyOf_int_mk ui (wf64 h)
abbrev kp (s o : Int) : Lit := .string (keyBytes [.int .i64 s, .int .i64 o])
structure It where
 I : Nat
 v : Value
def hdV (n : Value) : List It -> Value
 | [] => n
 | x :: _ => pv x.I
def lsV (p : Value) : List It -> Value
 | [] => p
 | x :: r => lsV (pv x.I) r
def chn (w : World) (ti : TypeId) : Value -> List It -> Value -> Prop
 | _, [], _ => True
 | p, x :: r, n => w.heap[x.I]? = some (.cells #[x.v, p, hdV n r] ti (0, 0)) /\ chn w ti (pv x.I) r n
theorem chn_same {w w' : World} {ti : TypeId} : ∀ {p n : Value} {l : List It}, chn w ti p l n -> (∀ x ∈ l, w'.heap[x.I]? = w.heap[x.I]?) -> chn w' ti p l n
 | _, _, [], _, _ => trivial
 | _, _, x :: r, h, hs => ⟨(hs x (by simp)).trans h.1, chn_same h.2 (fun y hy => hs y (by simp [hy]))⟩
theorem chn_at {w : World} {ti : TypeId} : ∀ {p n : Value} {l : List It}, chn w ti p l n -> ∀ x ∈ l, ∃ a b, w.heap[x.I]? = some (.cells #[x.v, a, b] ti (0, 0))
 | _, _, [], _, _, hx => by simp at hx
 | p, n, x :: r, h, y, hy => by
  rcases List.mem_cons.1 hy with rfl | hy
  · exact ⟨_, _, h.1⟩
  · exact chn_at h.2 y hy
structure QAt (w : World) (tq ti : TypeId) (Q : Nat) (l : List It) : Prop where
 blk : w.heap[Q]? = some (.cells #[hdV np l, lsV np l, .int .i64 l.length] tq (0, 0))
 ch : chn w ti np l np
 nd : (l.map It.I).Nodup
def qf (Q : Nat) (l : List It) (k : Nat) : Prop := k = Q ∨ k ∈ l.map It.I
theorem QAt.same {w w' : World} {tq ti : TypeId} {Q : Nat} {l : List It} (h : QAt w tq ti Q l) (hs : ∀ k, qf Q l k -> w'.heap[k]? = w.heap[k]?) : QAt w' tq ti Q l :=
 ⟨(hs Q (.inl rfl)).trans h.blk, chn_same h.ch (fun x hx => hs x.I (.inr (List.mem_map_of_mem hx))), h.nd⟩
theorem QAt.lt {w : World} {tq ti : TypeId} {Q : Nat} {l : List It} (h : QAt w tq ti Q l) {k : Nat} (hk : qf Q l k) : k < w.heap.size := by
 rcases hk with rfl | hk
 · exact heap_lt h.blk
 · obtain ⟨x, hx, rfl⟩ := List.mem_map.1 hk
   obtain ⟨a, b, hh⟩ := chn_at h.ch x hx
   exact heap_lt hh
abbrev QAW (w : World) (Q : Nat) (l : List It) : Prop := QAt w 335 354 Q l
abbrev QAI (w : World) (Q : Nat) (l : List It) : Prop := QAt w 270 273 Q l
theorem umA : Tryz.prog.underlying 120 = some (.map 3 241) := by kernel_rfl
theorem uzA (w : World) : (zeroValue 241).run Tryz.prog w = .ok np w := by kernel_rfl
end Go.Proofs.YtmgfakfiiaeofaaGreat.Wa
/- Words for what an iterator over a queue tells. -/
namespace Go.Proofs.YtmgfakfiiaeofaaGreat.Wa
open Go.RowKit
abbrev Im (l : List It) := { x : It // x ∈ l }
def encI {l : List It} (x : Im l) : Array Value := #[x.1.v]
end Go.Proofs.YtmgfakfiiaeofaaGreat.Wa
/- Regions whose order is drawn and whose operations keep all that is older: each operation by what its value is like, whichever others are done. -/
namespace Go.Proofs.YtmgfakfiiaeofaaGreat.Wa
open Go.RowKit Go.Sort
section
variable {P : Program} {ops : Array Oper}
def ClB (ops : Array Oper) (li : Array Bool) : Prop := ∀ i o, ops[i]? = some o -> li.getD i false = true -> ∀ e ∈ o.after, Region.binds .any e = true -> li.getD e.on false = true
theorem getD_set {li : Array Bool} {i j : Nat} (h : li.getD j false = true) : (li.setIfInBounds i true).getD j false = true := by
 rw [Array.getD_eq_getD_getElem?] at h |-
 rw [Array.getElem?_setIfInBounds]
 split
 · split
   · rfl
   · rename_i h1 h2; subst h1; rw [Array.getElem?_eq_none (by omega)] at h; exact h
 · exact h
theorem ClB.set {li : Array Bool} (hc : ClB ops li) {i : Nat} {o : Oper} (ho : ops[i]? = some o) (hd : ∀ e ∈ o.after, Region.binds .any e = true -> li.getD e.on false = true) : ClB ops (li.setIfInBounds i true) := by
 intro k ok hk hkd e he hb
 by_cases hki : k = i
 · subst hki
   rw [hk] at ho; cases ho
   exact getD_set (hd e he hb)
 · refine getD_set (hc k ok hk ?_ e he hb)
   rw [Array.getD_eq_getD_getElem?, Array.getElem?_setIfInBounds_ne (Ne.symm hki)] at hkd
   rw [Array.getD_eq_getD_getElem?]; exact hkd
end
attribute [local go_sem] Oper.semAt_some
theorem intInfo : (Tryz.prog.info? 3).map (fun i => (i.zero, i.size, i.bytes)) = some (some (.int .i64 0), 1, 8) := by kernel_rfl
def I1V (c : Int) (v : Value) (W : World) : Prop := ∃ g, v = .slice (some ⟨g, 0, none⟩) 1 1 /\ W.cell? ⟨g, 0, none⟩ = some (.int .i64 c) /\ g < W.heap.size
theorem I1V.below {c : Int} {v : Value} {W W' : World} (h : I1V c v W) (hb : Below W.heap.size W W') : I1V c v W' := by
 obtain ⟨g, h1, h2, h3⟩ := h
 exact ⟨g, h1, (hb.cell (p := ⟨g, 0, none⟩) h3).trans h2, Nat.lt_of_lt_of_le h3 hb.size⟩
end Go.Proofs.YtmgfakfiiaeofaaGreat.Wa
/- The iterator over a queue: what all tells. -/
namespace Go.Proofs.YtmgfakfiiaeofaaGreat.Wa
open Go.RowKit
attribute [local go_sem] Oper.semAt_some
theorem allI_any (v : Option Addr) (w : World) : Calls Tryz.prog 165 #[.pointer v] w fun e w' => e = .returned (.func (.func 215) #[] #[.pointer (some ⟨w.heap.size, 0, none⟩)]) /\ w' = w.alloc (.cells #[.pointer v] 241) := by
 go_enter Tryz.func165, Tryz.ntmps165
 go_wp2
 go_ret
 exact ⟨rfl, rfl⟩
theorem allI1_nil (n lp Bq : Nat) (J Jx : List (Im []) -> World -> Prop) (W : World) (t0 : Boxed W Bq 241 np) (h0 : J [] W) :
 CallsIn Fence.wide n Tryz.prog 215 #[.func (.yield lp) #[] #[], .pointer (some ⟨Bq, 0, none⟩)] W fun e W' => (∃ v, e = .returned v) /\
  ((∃ zs, zs.map (·.1) = [] /\ J zs W') ∨ (∃ pre, pre.map (·.1) <+: [] /\ Jx pre W')) := by
 have h1 : Fence.wide.fn 215 := trivial
 have hro : Fence.wide.round = none := rfl
 have c0 := t0.cell
 refine callsIn_of_wp Tryz.func215 rfl h1 ?_ hro
 simp only [Tryz.ntmps215, List.size_toArray, List.length_cons, List.length_nil, Nat.reduceAdd, Nat.reduceSub, Array.replicate_succ, Array.replicate_zero, List.push_toArray, List.append_toArray, List.nil_append, List.cons_append]
 gi_wp2_with fail
 refine bodyPost_ret (results_none rfl _ _ _) rfl ?_
 exact ⟨⟨_, rfl⟩, .inl ⟨[], rfl, h0⟩⟩
theorem allI_stops_nil (n Bq : Nat) (w : World) (t0 : Boxed w Bq 241 np) :
 SeqStopsK Fence.wide n Tryz.prog 215 #[.pointer (some ⟨Bq, 0, none⟩)] (encI (l := [])) (fun _ _ => True) (fun zs => zs.map (·.1) = []) (fun pre => pre.map (·.1) <+: []) 0 w := fun lp J Jx W hW _ _ _ h0 =>
 allI1_nil n lp Bq J Jx W ((hW.block Bq t0.lt).trans t0) h0
end Go.Proofs.YtmgfakfiiaeofaaGreat.Wa
/- Rooms as they lie in memory: who waits, in two kinds of queues, and alerts. -/
namespace Go.Proofs.YtmgfakfiiaeofaaGreat.Wa
open Go.RowKit Go.Sort
open Go.Maps (Keyed)
inductive Tag
 | rb
 | m (i : Nat)
 | wt (t : Int)
 | ip (t : Int)
 | is (t : Int)
 | pq (s o : Int)
 | sq (s : Int)
 | aq (t : Int)
 | ai (t : Int)
structure Wt where
 B : Nat
 th : Int
 seg : Int
 off : Int
 ip : Nat
 is : Nat
structure Al where
 I : Nat
 c : Int
structure Rm where
 rb : Nat
 m0 : Nat
 m1 : Nat
 m2 : Nat
 m3 : Nat
 fw : Lit -> Option Nat
 fp : Lit -> Option Nat
 fs : Lit -> Option Nat
 fa : Lit -> Option Nat
 all : List Wt
 pq : Int -> Int -> Nat
 sq : Int -> Nat
 al : Int -> List Al
 aq : Int -> Nat
 own : Nat -> Option Tag
 N : Nat
def wtC (x : Wt) : Array Value := #[.int .i64 x.seg, .int .i64 x.off, .int .i64 x.th, pv x.ip, pv x.is]
def atP (s o : Int) (l : List Wt) : List Wt := l.filter fun x => x.seg == s && x.off == o
def inS (s : Int) (l : List Wt) : List Wt := l.filter fun x => x.seg == s
def itP (l : List Wt) : List It := l.map fun x => ⟨x.ip, pv x.B⟩
def itS (l : List Wt) : List It := l.map fun x => ⟨x.is, pv x.B⟩
def itA (l : List Al) : List It := l.map fun x => ⟨x.I, .int .i64 x.c⟩
structure RmAt (w : World) (R : Rm) : Prop where
 blk : w.heap[R.rb]? = some (.cells #[.map (some R.m0), .map (some R.m1), .map (some R.m2), .map (some R.m3)] 122 (0, 0))
 mw : MAt w 3 R.m0 R.all.length R.fw
 mp : ∃ n, n <= R.N /\ MAt w 237 R.m1 n R.fp
 ms : ∃ n, n <= R.N /\ MAt w 3 R.m2 n R.fs
 ma : ∃ n, n <= R.N /\ MAt w 3 R.m3 n R.fa
 fw : ∀ t, R.fw (ky t) = (R.all.find? fun x => x.th == t).map (·.B)
 fp : ∀ s o, i64 s -> i64 o -> R.fp (kp s o) = if atP s o R.all = [] then none else some (R.pq s o)
 fs : ∀ s, R.fs (ky s) = if inS s R.all = [] then none else some (R.sq s)
 fa : ∀ t, R.fa (ky t) = if R.al t = [] then none else some (R.aq t)
 len : R.all.length <= R.N
 lenA : ∀ t, (R.al t).length <= R.N
 wts : ∀ x ∈ R.all, w.heap[x.B]? = some (.cells (wtC x) 240 (0, 0))
 qp : ∀ s o, atP s o R.all ≠ [] -> QAW w (R.pq s o) (itP (atP s o R.all))
 qs : ∀ s, inS s R.all ≠ [] -> QAW w (R.sq s) (itS (inS s R.all))
 qa : ∀ t, R.al t ≠ [] -> QAI w (R.aq t) (itA (R.al t))
 nd : (R.all.map (·.th)).Nodup
 good : ∀ x ∈ R.all, i64 x.th /\ i64 x.seg /\ i64 x.off
 goodA : ∀ t a, a ∈ R.al t -> i64 t /\ i64 a.c
 orb : R.own R.rb = some .rb
 om0 : R.own R.m0 = some (.m 0)
 om1 : R.own R.m1 = some (.m 1)
 om2 : R.own R.m2 = some (.m 2)
 om3 : R.own R.m3 = some (.m 3)
 ow : ∀ x ∈ R.all, R.own x.B = some (.wt x.th) /\ R.own x.ip = some (.ip x.th) /\ R.own x.is = some (.is x.th)
 op : ∀ s o, atP s o R.all ≠ [] -> R.own (R.pq s o) = some (.pq s o)
 os : ∀ s, inS s R.all ≠ [] -> R.own (R.sq s) = some (.sq s)
 oa : ∀ t, R.al t ≠ [] -> R.own (R.aq t) = some (.aq t)
 oi : ∀ t a, a ∈ R.al t -> R.own a.I = some (.ai t)
 lt : ∀ k, R.own k ≠ none -> k < w.heap.size
theorem mem_atP {s o : Int} {l : List Wt} {x : Wt} : x ∈ atP s o l ↔ x ∈ l /\ x.seg = s /\ x.off = o := by unfold atP; simp [List.mem_filter]
theorem mem_inS {s : Int} {l : List Wt} {x : Wt} : x ∈ inS s l ↔ x ∈ l /\ x.seg = s := by unfold inS; simp [List.mem_filter]
theorem qfP {Q : Nat} {l : List Wt} {k : Nat} : qf Q (itP l) k ↔ k = Q ∨ ∃ x ∈ l, k = x.ip := by unfold qf itP; simp [eq_comm]
theorem qfS {Q : Nat} {l : List Wt} {k : Nat} : qf Q (itS l) k ↔ k = Q ∨ ∃ x ∈ l, k = x.is := by unfold qf itS; simp [eq_comm]
theorem qfA {Q : Nat} {l : List Al} {k : Nat} : qf Q (itA l) k ↔ k = Q ∨ ∃ x ∈ l, k = x.I := by unfold qf itA; simp [eq_comm]
section
variable {w w' : World} {R : Rm} {S : Tag -> Prop} {own : Nat -> Option Tag}
theorem RmAt.same (h : RmAt w R) (hs : w.heap.size <= w'.heap.size) (hk : ∀ k, R.own k ≠ none -> w'.heap[k]? = w.heap[k]?) : RmAt w' R := by
 have k1 : ∀ {k g}, R.own k = some g -> w'.heap[k]? = w.heap[k]? := fun e => hk _ (by rw [e]; simp)
 refine ⟨(k1 h.orb).trans h.blk, h.mw.same (k1 h.om0), ?_, ?_, ?_, h.fw, h.fp, h.fs, h.fa, h.len, h.lenA, fun x hx => (k1 (h.ow x hx).1).trans (h.wts x hx), ?_, ?_, ?_, h.nd, h.good, h.goodA, h.orb, h.om0, h.om1, h.om2, h.om3, h.ow, h.op, h.os, h.oa, h.oi, fun k hk => Nat.lt_of_lt_of_le (h.lt k hk) hs⟩
 · obtain ⟨n, h1, h2⟩ := h.mp; exact ⟨n, h1, h2.same (k1 h.om1)⟩
 · obtain ⟨n, h1, h2⟩ := h.ms; exact ⟨n, h1, h2.same (k1 h.om2)⟩
 · obtain ⟨n, h1, h2⟩ := h.ma; exact ⟨n, h1, h2.same (k1 h.om3)⟩
 · intro s o hne
   refine (h.qp s o hne).same (fun k hk => ?_)
   rcases qfP.1 hk with rfl | ⟨x, hm, rfl⟩
   · exact k1 (h.op s o hne)
   · exact k1 (h.ow x (mem_atP.1 hm).1).2.1
 · intro s hne
   refine (h.qs s hne).same (fun k hk => ?_)
   rcases qfS.1 hk with rfl | ⟨x, hm, rfl⟩
   · exact k1 (h.os s hne)
   · exact k1 (h.ow x (mem_inS.1 hm).1).2.2
 · intro t hne
   refine (h.qa t hne).same (fun k hk => ?_)
   rcases qfA.1 hk with rfl | ⟨x, hm, rfl⟩
   · exact k1 (h.oa t hne)
   · exact k1 (h.oi t x hm)
theorem RmAt.below (h : RmAt w R) (hb : Below w.heap.size w w') : RmAt w' R := h.same hb.size (fun k hk => hb.block k (h.lt k hk))
end
theorem RmAt.find {w : World} {R : Rm} (h : RmAt w R) {x : Wt} (hx : x ∈ R.all) : R.all.find? (fun y => y.th == x.th) = some x := by
 have hnd := h.nd
 generalize R.all = l at hx hnd
 induction l with
 | nil => simp at hx
 | cons y l ih =>
  rw [List.find?_cons]
  rcases List.mem_cons.1 hx with rfl | hx
  · simp
  · have hne : ¬ y.th = x.th := fun e => (List.nodup_cons.1 hnd).1 (by show y.th ∈ _; rw [e]; exact List.mem_map_of_mem hx)
    rw [show (y.th == x.th) = false from by simpa using hne]
    exact ih hx (List.nodup_cons.1 hnd).2
theorem find_none {l : List Wt} {t : Int} (h : ∀ x ∈ l, x.th ≠ t) : l.find? (fun y => y.th == t) = none := by
 rw [List.find?_eq_none]
 intro x hx
 simpa using h x hx
theorem umW : Tryz.prog.underlying 114 = some (.map 3 235) := by kernel_rfl
theorem uzW (w : World) : (zeroValue 235).run Tryz.prog w = .ok np w := by kernel_rfl
end Go.Proofs.YtmgfakfiiaeofaaGreat.Wa
