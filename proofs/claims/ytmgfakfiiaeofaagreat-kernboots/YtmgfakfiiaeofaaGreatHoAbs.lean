/- A table of objects, without where they lie: what the calls of package hold do with it. -/
import Derived.Test.YtmgfakfiiaeofaaGreatKBegin
import Derived.Test.YtmgfakfiiaeofaaGreatHoCut
import Derived.Test.YtmgfakfiiaeofaaGreatHoCont
import Derived.Test.YtmgfakfiiaeofaaGreatHoLabR
import Derived.Laws.StructEq
/- What Drop of package hold does. -/
namespace Go.Proofs.YtmgfakfiiaeofaaGreat.Ho
open Go.RowKit Go.Sort
def dropR (r s : Rc) (x : Int) (iv : Value) : Rc := { r with iv := iv, ob := { r.ob with ents := without x r.ob.ents, used := r.ob.used - s.ob.quota } }
theorem GoodT.drop {T : Tab} (h : GoodT T) {i : Int} {r s : Rc} (hi : T i = some r) (x : Int) (iv : Value) : GoodT (upd T i (dropR r s x iv)) := fun k t ht => by
 unfold upd at ht
 split at ht
 · subst k
   obtain rfl : dropR r s x iv = t := by simpa using ht
   obtain ⟨h0, h1, h2, h3, h4⟩ := h i r hi
   refine ⟨h0, fun y hy => h1 y ?_, ?_, h3, h4⟩
   · exact (List.mem_filter.1 hy).1
   · exact Nat.lt_of_le_of_lt (List.length_filter_le _ _) h2
 · exact h k t ht
theorem Fm.below {w w' : World} {F F' : Nat -> Prop} {b : Nat} (h : Fm w w' F F') (hb : b <= w.heap.size) (hF : ∀ k, F k -> b <= k) : Below b w w' :=
 ⟨h.os, h.tape, h.output, h.size, fun k hk => h.same k (by omega) (fun e => by have := hF k e; omega)⟩
def IntsAt (w : World) (p : Option Addr) (xs : List Int) : Prop := ∀ j, (h : j < xs.length) -> ∃ b off, p = some ⟨b, off, none⟩ /\ b < w.heap.size /\ w.cell? ⟨b, off + j, none⟩ = some (.int .i64 xs[j])
theorem IntsAt.below {w w' : World} {p : Option Addr} {xs : List Int} (h : IntsAt w p xs) (hb : Below w.heap.size w w') : IntsAt w' p xs := fun j hj => by
 obtain ⟨b, off, hp, hbl, c0⟩ := h j hj
 exact ⟨b, off, hp, Nat.lt_of_lt_of_le hbl hb.size, (hb.cell (p := ⟨b, off + j, none⟩) hbl).trans c0⟩
structure Three (T : Tab) (a b : Int) (r1 r5 r7 : Rc) : Prop where
 t1 : T 1 = some r1
 t5 : T 5 = some r5
 t7 : T 7 = some r7
 o1 : r1.ob = ⟨1, 1, 1099511627776, a, 1, 2, [], [5]⟩
 o5 : r5.ob = ⟨5, 1, a, b, 1, 2, [], [7]⟩
 o7 : r7.ob = ⟨7, 1, b, 0, 1, 2, [], []⟩
theorem row_ints {w : World} {base : Nat} {p : Option Addr} {cap : Nat} {l : List Int} (h : w.ownsRow base 3 1 (.slice p l.length cap) l.length (ivs l)) : IntsAt w p l := by
 intro k hlt
 rcases h.2 with ⟨hv, h0⟩ | ⟨g, cap', cur, hv, _, hg, _⟩
 · omega
 · simp at hv
   obtain ⟨rfl, rfl⟩ := hv
   refine ⟨g, 0, rfl, (Array.getElem?_eq_some_iff.1 hg).1, ?_⟩
   rw [Nat.zero_add, h.cellAt k (by omega)]
   unfold ivs; simp [hlt]
theorem take_eq {a b : List Int} {k : Nat} (ha : k < a.length) (hb : k < b.length) (h : a.take k = b.take k) (he : a[k] = b[k]) : a.take (k + 1) = b.take (k + 1) := by
 rw [List.take_succ_eq_append_getElem ha, List.take_succ_eq_append_getElem hb, h, he]
theorem take_ne {a b : List Int} {k : Nat} (ha : k < a.length) (hb : k < b.length) (he : ¬ a[k] = b[k]) : a ≠ b := fun e => by subst e; exact he rfl
set_option maxRecDepth 100000 in
set_option maxHeartbeats 1000000 in
theorem SameInts_any (w : World) (p q : Option Addr) (c d : Nat) (a b : List Int) (ha : IntsAt w p a) (hb : IntsAt w q b) (hla : a.length < 1000000) :
 Calls Tryz.prog 22 #[.slice p a.length c, .slice q b.length d] w fun e w' => e = .returned (.bool (a == b)) /\ Below w.heap.size w w' := by
 by_cases hl : a.length = b.length
 · have HL := Lib.hid hl
   have hli : ¬ ((a.length : Int) ≠ (b.length : Int)) := by omega
   have hlb : ((a.length : Int) != (b.length : Int)) = false := by simp [hl]
   clear hl
   go_enter Tryz.func22, Tryz.ntmps22
   go_wp2_with fail
   go_loopw [13] (fun y wr => ∃ k : Nat, y = .int .i64 k /\ k <= a.length /\ a.take k = b.take k /\ Below w.heap.size w wr) (fun y _ => (a.length - (RowKit.intOf y).toNat))
   case atStart => exact ⟨0, rfl, Nat.zero_le _, rfl, Below.refl _ _⟩
   case round =>
    obtain ⟨k, rfl, hk, htk, hB⟩ := hrel
    have HTK := Lib.hid htk
    have HBw := Lib.hid hB
    clear htk
    by_cases hlt : k < a.length
    · have hltb : k < b.length := by have := HL.out; omega
      have hki : (k : Int) < (a.length : Int) := by omega
      have hkj : (k : Int) < (b.length : Int) := by omega
      obtain ⟨ga, oa, rfl, hga, cga⟩ := ha k hlt
      obtain ⟨gb, ob, rfl, hgb, cgb⟩ := hb k hltb
      have d0 : ∀ n, (wr.drewN n).cell? ⟨ga, oa + k, none⟩ = some (.int .i64 a[k]) := fun n => show wr.cell? _ = _ from (hB.cell (p := ⟨ga, oa + k, none⟩) hga).trans cga
      have d1 : ∀ n, (wr.drewN n).cell? ⟨gb, ob + k, none⟩ = some (.int .i64 b[k]) := fun n => show wr.cell? _ = _ from (hB.cell (p := ⟨gb, ob + k, none⟩) hgb).trans cgb
      have HTE := fun e => Lib.hid (take_eq hlt hltb HTK.out e)
      have HNE := fun e => Lib.hid (take_ne hlt hltb e)
      obtain ⟨xa, hxa⟩ : ∃ xa, a[k] = xa := ⟨_, rfl⟩
      obtain ⟨xb, hxb⟩ : ∃ xb, b[k] = xb := ⟨_, rfl⟩
      simp only [hxa] at d0 HTE HNE
      simp only [hxb] at d1 HTE HNE
      clear ha hb cga cgb hB hxa hxb
      by_cases he : xa = xb
      · have heb : (xa != xb) = false := by simp [he]
        have HT2 := HTE he
        have heq : (xa == xb) = true := by simp [he]
        clear HTE HNE
        go_wp2_with fail
        go_quiet (fail)
        go_wp2_with fail
        go_roundw
        case rel => exact ⟨k + 1, by go_num, by omega, HT2.out, HBw.out.trans ⟨rfl, rfl, rfl, Nat.le_refl _, fun _ _ => rfl⟩⟩
        case measure => simp [RowKit.intOf]; omega
      · have heb : (xa != xb) = true := by simp [he]
        have HN2 := HNE he
        clear HTE HNE
        go_wp2_with fail
        go_quiet (fail)
        go_wp2_with fail
        go_ret
        exact ⟨by rw [show (a == b) = false from by simpa using HN2.out]; rfl, HBw.out.trans ⟨rfl, rfl, rfl, Nat.le_refl _, fun _ _ => rfl⟩⟩
    · obtain rfl : k = a.length := by omega
      have hkk : ¬ (a.length : Int) < (a.length : Int) := by omega
      have hee : a = b := by have := HTK.out; rw [List.take_length, HL.out, List.take_length] at this; exact this
      have HEE := Lib.hid hee
      clear hee ha hb hB
      go_wp2_with fail
      go_ret
      exact ⟨by rw [show (a == b) = true from by simpa using HEE.out]; rfl, HBw.out⟩
 · have hli : ((a.length : Int) ≠ (b.length : Int)) := by omega
   have hlb : ((a.length : Int) != (b.length : Int)) = true := by simpa using hli
   have HNE : Hid ((a == b) = false) := by
    show (a == b) = false
    simp only [beq_eq_false_iff_ne, ne_eq]
    intro e; exact hl (by rw [e])
   clear ha hb hl
   go_enter Tryz.func22, Tryz.ntmps22
   go_wp2_with fail
   go_ret
   exact ⟨by rw [HNE.out]; rfl, Below.refl _ _⟩
def inB (l : List Int) (x : Int) : Bool := l.any fun y => y == x
theorem inB_iff {l : List Int} {x : Int} : inB l x = true ↔ x ∈ l := by unfold inB; simp
theorem inB_step {a : List Int} {k : Nat} (h : k < a.length) (x : Int) : inB (a.take (k + 1)) x = (inB (a.take k) x || (a[k] == x)) := by
 unfold inB
 rw [List.take_succ_eq_append_getElem h, List.any_append]; simp
set_option maxRecDepth 100000 in
set_option maxHeartbeats 1000000 in
theorem In_any (w : World) (p : Option Addr) (c : Nat) (a : List Int) (x : Int) (ha : IntsAt w p a) (hla : a.length < 1000000) :
 Calls Tryz.prog 9 #[.slice p a.length c, .int .i64 x] w fun e w' => e = .returned (.bool (inB a x)) /\ w' = w := by
 have HA := Lib.hid ha
 clear ha
 go_enter Tryz.func9, Tryz.ntmps9
 go_wp2_with fail
 go_loopw [9] (fun y wr => ∃ k : Nat, y = .int .i64 k /\ k <= a.length /\ inB (a.take k) x = false /\ w = wr) (fun y _ => (a.length - (RowKit.intOf y).toNat))
 case atStart => exact ⟨0, rfl, Nat.zero_le _, rfl, rfl⟩
 case round =>
  obtain ⟨k, rfl, hk, htk, rfl⟩ := hrel
  have HTK := Lib.hid htk
  clear htk
  by_cases hlt : k < a.length
  · have hki : (k : Int) < (a.length : Int) := by omega
    obtain ⟨ga, oa, rfl, hga, cga⟩ := HA.out k hlt
    have HST := Lib.hid (inB_step hlt x)
    have hmem : a[k] ∈ a := List.getElem_mem hlt
    obtain ⟨xa, hxa⟩ : ∃ xa, a[k] = xa := ⟨_, rfl⟩
    simp only [hxa] at cga HST hmem
    clear hxa
    by_cases he : xa = x
    · have heb : (xa == x) = true := by simp [he]
      have HM := Lib.hid (inB_iff.2 (he ▸ hmem))
      clear HST hmem
      go_wp2_with fail
      go_ret
      exact ⟨by rw [HM.out]; rfl, rfl⟩
    · have heb : (xa == x) = false := by simp [he]
      rw [heb, HTK.out] at HST
      have HST2 : Hid (inB (a.take (k + 1)) x = false) := HST.out
      clear HST
      clear hmem
      go_wp2_with fail
      go_roundw
      case rel => exact ⟨k + 1, by go_num, by omega, HST2.out, trivial⟩
      case measure => simp [RowKit.intOf]; omega
  · obtain rfl : k = a.length := by omega
    have hkk : ¬ (a.length : Int) < (a.length : Int) := by omega
    go_wp2_with fail
    go_ret
    have := HTK.out
    rw [List.take_length] at this
    exact ⟨by rw [this]; rfl, rfl⟩

theorem IntsAt.take {w : World} {p : Option Addr} {l : List Int} (h : IntsAt w p l) (k : Nat) : IntsAt w p (l.take k) := fun i hi => by
 obtain ⟨g, o, a, b, c⟩ := h i (by simp at hi; omega)
 exact ⟨g, o, a, b, by rw [c]; simp⟩
structure Th where
 id : Int
 kind : Int
 quota : Int
 df : Int
 cp : Option Addr
 cc : Nat
 cats : List (Int × Int)
 lp : Option Addr
 lc : Nat
 ents : List Int
def thC (t : Th) : List Value := [.int .i64 t.id, .int .i64 t.kind, .int .i64 t.quota, .int .i64 t.df, .slice t.cp t.cats.length t.cc, .slice t.lp t.ents.length t.lc]
def thsC : List Th -> List Value
 | [] => []
 | t :: l => thC t ++ thsC l
theorem thsC_len : ∀ l : List Th, (thsC l).length = l.length * 6
 | [] => rfl
 | t :: l => by rw [thsC, List.length_append, thsC_len l]; simp [thC]; omega
theorem thsC_app : ∀ a b : List Th, thsC (a ++ b) = thsC a ++ thsC b
 | [], b => rfl
 | t :: a, b => by rw [List.cons_append, thsC, thsC, thsC_app a b, List.append_assoc]
theorem thsC_one (t : Th) : thsC [t] = thC t := by simp [thsC]
theorem thC_cell (t : Th) : ∀ u ∈ thC t, u.oneCell' = true := fun u hu => by
 simp only [thC, List.mem_cons, List.not_mem_nil, or_false] at hu
 rcases hu with rfl | rfl | rfl | rfl | rfl | rfl <;> rfl
theorem thsC_cell : ∀ l : List Th, ∀ u ∈ thsC l, u.oneCell' = true
 | [], u, h => by cases h
 | t :: l, u, h => by
  rcases List.mem_append.1 h with h | h
  · exact thC_cell t u h
  · exact thsC_cell l u h
theorem thsC_at : ∀ (l : List Th) (k : Nat) (hk : k < l.length) (j : Nat), j < 6 -> (thsC l)[k * 6 + j]? = (thC l[k])[j]?
 | [], k, hk, _, _ => by cases hk
 | t :: l, 0, _, j, hj => by
  rw [thsC, List.getElem?_append_left (by simp [thC]; omega)]; simp
 | t :: l, k + 1, hk, j, hj => by
  have hl : (thC t).length = 6 := rfl
  rw [thsC, List.getElem?_append_right (by rw [hl]; omega), hl, show (k + 1) * 6 + j - 6 = k * 6 + j from by omega]
  exact thsC_at l k (by simpa using hk) j hj
def Off (P : Nat -> Prop) (p : Option Addr) (n : Nat) : Prop := 0 < n -> ∀ a, p = some a -> ¬ P a.block
structure RS (w : World) (rb g cap : Nat) (cs : Array Value) (root : Int) (L : List Th) (F : Nat -> Prop) : Prop where
 tab : w.heap[rb]? = some (.cells #[.int .i64 root, .slice (some ⟨g, 0, none⟩) L.length cap] 133 (0, 0))
 blk : w.heap[g]? = some (.cells cs 130 (0, 0))
 sz : cs.size = cap * 6
 le : L.length <= cap
 cel : ∀ (j : Nat) (u : Value), (thsC L)[j]? = some u -> cs[j]? = some u
 cat : ∀ t ∈ L, CatsAt w t.cp t.cats /\ IntsAt w t.lp t.ents
 out : ∀ t ∈ L, Off (fun b => b = rb ∨ b = g ∨ F b) t.cp t.cats.length /\ Off (fun b => b = rb ∨ b = g ∨ F b) t.lp t.ents.length
 frb : ¬ F rb
 frg : ¬ F g
 nd : (L.map (·.id)).Nodup
 lim : L.length <= 4096 /\ ∀ t ∈ L, t.cats.length < 1000000 /\ t.ents.length < 1000000
 cpl : cap <= maxLen
 fl : ∀ k, F k -> k < w.heap.size
theorem RS.ne {w : World} {rb g cap : Nat} {cs : Array Value} {root : Int} {L : List Th} {F : Nat -> Prop} (h : RS w rb g cap cs root L F) : rb ≠ g := fun e => by
 have h1 := h.tab
 rw [e, h.blk] at h1
 simp at h1
theorem RS.rl {w : World} {rb g cap : Nat} {cs : Array Value} {root : Int} {L : List Th} {F : Nat -> Prop} (h : RS w rb g cap cs root L F) : rb < w.heap.size /\ g < w.heap.size :=
 ⟨(Array.getElem?_eq_some_iff.1 h.tab).1, (Array.getElem?_eq_some_iff.1 h.blk).1⟩
theorem cats_keep {w w' : World} {p : Option Addr} {xs : List (Int × Int)} {P : Nat -> Prop} (h : CatsAt w p xs) (ho : Off P p xs.length) (hs : ∀ k, k < w.heap.size -> ¬ P k -> w'.heap[k]? = w.heap[k]?) (hz : w.heap.size <= w'.heap.size) : CatsAt w' p xs := fun j hj => by
 obtain ⟨b, off, hp, hbl, c0, c1⟩ := h j hj
 have e := hs b hbl (ho (Nat.lt_of_le_of_lt (Nat.zero_le _) hj) _ hp)
 exact ⟨b, off, hp, Nat.lt_of_lt_of_le hbl hz, (World.cell?_of_block (a := ⟨b, off + j * 2, none⟩) e).trans c0, (World.cell?_of_block (a := ⟨b, off + j * 2 + 1, none⟩) e).trans c1⟩
theorem ints_keep {w w' : World} {p : Option Addr} {xs : List Int} {P : Nat -> Prop} (h : IntsAt w p xs) (ho : Off P p xs.length) (hs : ∀ k, k < w.heap.size -> ¬ P k -> w'.heap[k]? = w.heap[k]?) (hz : w.heap.size <= w'.heap.size) : IntsAt w' p xs := fun j hj => by
 obtain ⟨b, off, hp, hbl, c0⟩ := h j hj
 have e := hs b hbl (ho (Nat.lt_of_le_of_lt (Nat.zero_le _) hj) _ hp)
 exact ⟨b, off, hp, Nat.lt_of_lt_of_le hbl hz, (World.cell?_of_block (a := ⟨b, off + j, none⟩) e).trans c0⟩
section
variable {w : World} {rb g cap : Nat} {cs : Array Value} {root : Int} {L : List Th} {F : Nat -> Prop}
theorem RS.keep {w' : World} {F' : Nat -> Prop} (h : RS w rb g cap cs root L F) (hs : ∀ k, k < w.heap.size -> ¬ F k -> w'.heap[k]? = w.heap[k]?) (hz : w.heap.size <= w'.heap.size) (hF : ∀ k, F' k -> F k ∨ w.heap.size <= k) (hl : ∀ k, F' k -> k < w'.heap.size) : RS w' rb g cap cs root L F' := by
 have hr := h.rl
 have no : ∀ k, k < w.heap.size -> ¬ F k -> ¬ F' k := fun k hk hn hf => by
  rcases hF k hf with h1 | h1
  · exact hn h1
  · omega
 refine ⟨(hs rb hr.1 h.frb).trans h.tab, (hs g hr.2 h.frg).trans h.blk, h.sz, h.le, h.cel, fun t ht => ?_, fun t ht => ?_, no rb hr.1 h.frb, no g hr.2 h.frg, h.nd, h.lim, h.cpl, hl⟩
 · obtain ⟨c1, c2⟩ := h.cat t ht
   obtain ⟨o1, o2⟩ := h.out t ht
   have hs' : ∀ k, k < w.heap.size -> ¬ (k = rb ∨ k = g ∨ F k) -> w'.heap[k]? = w.heap[k]? := fun k hk hn => hs k hk (fun hf => hn (.inr (.inr hf)))
   exact ⟨cats_keep c1 o1 hs' hz, ints_keep c2 o2 hs' hz⟩
 · obtain ⟨c1, c2⟩ := h.cat t ht
   obtain ⟨o1, o2⟩ := h.out t ht
   refine ⟨fun hn a ha hb => ?_, fun hn a ha hb => ?_⟩
   · rcases hb with hb | hb | hb
     · exact o1 hn a ha (.inl hb)
     · exact o1 hn a ha (.inr (.inl hb))
     · obtain ⟨b, off, hp, hbl, _⟩ := c1 0 hn
       rw [ha] at hp; cases hp
       exact no _ hbl (fun hf => o1 hn _ ha (.inr (.inr hf))) hb
   · rcases hb with hb | hb | hb
     · exact o2 hn a ha (.inl hb)
     · exact o2 hn a ha (.inr (.inl hb))
     · obtain ⟨b, off, hp, hbl, _⟩ := c2 0 hn
       rw [ha] at hp; cases hp
       exact no _ hbl (fun hf => o2 hn _ ha (.inr (.inr hf))) hb
theorem RS.below {w' : World} (h : RS w rb g cap cs root L F) (hb : Below w.heap.size w w') : RS w' rb g cap cs root L F :=
 h.keep (fun k hk _ => hb.block k hk) hb.size (fun _ hk => .inl hk) (fun k hk => Nat.lt_of_lt_of_le (h.fl k hk) hb.size)
theorem RS.own (h : RS w rb g cap cs root L F) (b : Nat) (hb : b <= g) : w.ownsRow b 130 6 (.slice (some ⟨g, 0, none⟩) L.length cap) L.length (thsC L) := by
 have hl := thsC_len L
 have hsz := h.sz
 have hle := h.le
 refine ⟨hl, .inr ⟨g, cap, cs, rfl, hb, h.blk, h.le, h.cpl, h.sz, ?_⟩⟩
 apply List.ext_getElem?
 intro j
 by_cases hj : j < L.length * 6
 · have hj' : j < (thsC L).length := by rw [hl]; exact hj
   rw [List.getElem?_take_of_lt hj, List.getElem?_eq_getElem hj', Array.getElem?_toList]
   exact h.cel j _ (List.getElem?_eq_getElem hj')
 · rw [List.getElem?_eq_none (by simp; omega), List.getElem?_eq_none (by omega)]
theorem RS.hd (h : RS w rb g cap cs root L F) : w.cell? ⟨rb, 0, none⟩ = some (.int .i64 root) /\ w.cell? ⟨rb, 1, none⟩ = some (.slice (some ⟨g, 0, none⟩) L.length cap) :=
 ⟨by simp [World.cell?, h.tab], by simp [World.cell?, h.tab]⟩
theorem RS.at_ (h : RS w rb g cap cs root L F) {k : Nat} (hk : k < L.length) (j : Nat) (hj : j < 6) {u : Value} (hu : (thC L[k])[j]? = some u) : w.cell? ⟨g, k * 6 + j, none⟩ = some u := by
 have := h.cel (k * 6 + j) u (by rw [thsC_at L k hk j hj]; exact hu)
 simp [World.cell?, h.blk, this]
theorem RS.six (h : RS w rb g cap cs root L F) {k : Nat} (hk : k < L.length) :
 w.cell? ⟨g, k * 6, none⟩ = some (.int .i64 L[k].id) /\ w.cell? ⟨g, k * 6 + 1, none⟩ = some (.int .i64 L[k].kind) /\ w.cell? ⟨g, k * 6 + 2, none⟩ = some (.int .i64 L[k].quota) /\ w.cell? ⟨g, k * 6 + 3, none⟩ = some (.int .i64 L[k].df) /\ w.cell? ⟨g, k * 6 + 4, none⟩ = some (.slice L[k].cp L[k].cats.length L[k].cc) /\ w.cell? ⟨g, k * 6 + 5, none⟩ = some (.slice L[k].lp L[k].ents.length L[k].lc) :=
 ⟨h.at_ hk 0 (by omega) rfl, h.at_ hk 1 (by omega) rfl, h.at_ hk 2 (by omega) rfl, h.at_ hk 3 (by omega) rfl, h.at_ hk 4 (by omega) rfl, h.at_ hk 5 (by omega) rfl⟩
def atL : List Th -> Int -> Nat -> Int
 | [], _, _ => -1
 | t :: l, id, k => if t.id = id then (k : Int) else atL l id (k + 1)
theorem atL_step {L : List Th} {k : Nat} (hk : k < L.length) (id : Int) : atL (L.drop k) id k = if L[k].id = id then (k : Int) else atL (L.drop (k + 1)) id (k + 1) := by
 rw [List.drop_eq_getElem_cons hk]; rfl
set_option maxRecDepth 100000 in
set_option maxHeartbeats 1000000 in
theorem rAt_any (h : RS w rb g cap cs root L F) (id : Int) : Calls Tryz.prog 44 #[.pointer (some ⟨rb, 0, none⟩), .int .i64 id] w fun e w' => e = .returned (.int .i64 (atL L id 0)) /\ w' = w := by
 obtain ⟨h0, h1⟩ := h.hd
 have hl := h.lim.1
 have H6 := Lib.hid (fun k hk => h.six (k := k) hk)
 have HS := Lib.hid (fun k hk => atL_step (L := L) (k := k) hk id)
 clear h
 go_enter Tryz.func44, Tryz.ntmps44
 go_wp2_with fail
 go_loopw [11] (fun y wr => ∃ k : Nat, y = .int .i64 k /\ k <= L.length /\ atL L id 0 = atL (L.drop k) id k /\ w = wr) (fun y _ => (L.length - (RowKit.intOf y).toNat))
 case atStart => exact ⟨0, rfl, Nat.zero_le _, rfl, rfl⟩
 case round =>
  obtain ⟨k, rfl, hk, htk, rfl⟩ := hrel
  have HT := Lib.hid htk
  clear htk
  by_cases hlt : k < L.length
  · have hki : (k : Int) < (L.length : Int) := by omega
    obtain ⟨c0, _⟩ := H6.out k hlt
    have hs := HS.out k hlt
    by_cases he : L[k].id = id
    · have heb : (L[k].id == id) = true := by simp [he]
      rw [if_pos he] at hs
      have HH := Lib.hid (HT.out.trans hs)
      clear hs
      go_wp2_with fail
      go_ret
      exact ⟨by rw [HH.out]; rfl, rfl⟩
    · have heb : (L[k].id == id) = false := by simp [he]
      rw [if_neg he] at hs
      have HH := Lib.hid (HT.out.trans hs)
      clear hs
      go_wp2_with fail
      go_roundw
      case rel => exact ⟨k + 1, by go_num, by omega, HH.out, trivial⟩
      case measure => simp [RowKit.intOf]; omega
  · obtain rfl : k = L.length := by omega
    have hkk : ¬ (L.length : Int) < (L.length : Int) := by omega
    have HH : Hid (atL L id 0 = -1) := by simp only [Hid]; rw [HT.out, List.drop_of_length_le (Nat.le_refl _)]; rfl
    go_wp2_with fail
    go_ret
    exact ⟨by rw [HH.out]; rfl, rfl⟩
def lkC (L : List Th) (id : Int) : Nat := (L.filter fun t => inB t.ents id).length
theorem lkC_step {L : List Th} {k : Nat} (hk : k < L.length) (id : Int) : lkC (L.take (k + 1)) id = lkC (L.take k) id + (if inB L[k].ents id = true then 1 else 0) := by
 unfold lkC
 rw [List.take_succ_eq_append_getElem hk, List.filter_append, List.length_append]
 congr 1
 by_cases h : inB L[k].ents id = true <;> simp [h]
theorem lkC_le (L : List Th) (id : Int) : lkC L id <= L.length := List.length_filter_le _ _
def lkL (root : Int) (L : List Th) (id : Int) : Int := (if id = root then 1 else 0) + lkC L id
set_option maxRecDepth 100000 in
set_option maxHeartbeats 2000000 in
theorem rLinks_any (h : RS w rb g cap cs root L F) (id : Int) : Calls Tryz.prog 114 #[.pointer (some ⟨rb, 0, none⟩), .int .i64 id] w fun e w' => e = .returned (.int .i64 (lkL root L id)) /\ w' = w := by
 obtain ⟨h0, h1⟩ := h.hd
 have hl := h.lim.1
 have H6 := Lib.hid (fun k hk => h.six (k := k) hk)
 have HI := Lib.hid (fun k (hk : k < L.length) => In_any w L[k].lp L[k].lc L[k].ents id (h.cat _ (List.getElem_mem hk)).2 (h.lim.2 _ (List.getElem_mem hk)).2)
 have HS := Lib.hid (fun k hk => lkC_step (L := L) (k := k) hk id)
 have HL := Lib.hid (fun k => lkC_le (L.take k) id)
 have key : ∀ z : Int, (z = 0 ∨ z = 1) -> (z = if id = root then 1 else 0) -> Hid (lkL root L id = z + lkC L id) := fun z _ hz => by simp only [Hid, lkL, hz]
 clear h
 by_cases hr : id = root
 all_goals
  go_enter Tryz.func114, Tryz.ntmps114
 · subst hr
   have HK := key 1 (.inr rfl) (by simp)
   clear key
   go_wp2_with fail
   go_loopw [5, 18] (fun z y wr => ∃ k : Nat, y = .int .i64 k /\ k <= L.length /\ z = .int .i64 (1 + lkC (L.take k) id) /\ w = wr) (fun _ y _ => (L.length - (RowKit.intOf y).toNat))
   case atStart => exact ⟨0, rfl, Nat.zero_le _, rfl, rfl⟩
   case round =>
    obtain ⟨k, rfl, hk, rfl, rfl⟩ := hrel
    by_cases hlt : k < L.length
    · have hki : (k : Int) < (L.length : Int) := by omega
      obtain ⟨_, _, _, _, _, c5⟩ := H6.out k hlt
      have hs := Lib.hid (HS.out k hlt)
      have hli := HL.out k
      have hlk : (L.take k).length = k := by simp; omega
      rw [hlk] at hli
      have HIk := Lib.hid (HI.out k hlt)
      by_cases he : inB L[k].ents id = true
      · have HH : Hid (lkC (L.take (k + 1)) id = lkC (L.take k) id + 1) := by simp only [Hid]; rw [hs.out, if_pos he]
        go_wp2_with (go_at_call 9; refine (HIk.out).mono ?_; rintro e w' ⟨rfl, hw'⟩; rw [hw']; clear hw' w')
        go_roundw
        case rel => exact ⟨k + 1, by go_num, by omega, by rw [HH.out]; go_num, trivial⟩
        case measure => simp [RowKit.intOf]; omega
      · have he' : inB L[k].ents id = false := by simpa using he
        have HH : Hid (lkC (L.take (k + 1)) id = lkC (L.take k) id) := by simp only [Hid]; rw [hs.out, if_neg he]; rfl
        go_wp2_with (go_at_call 9; refine (HIk.out).mono ?_; rintro e w' ⟨rfl, hw'⟩; rw [hw']; clear hw' w')
        go_roundw
        case rel => exact ⟨k + 1, by go_num, by omega, by rw [HH.out], trivial⟩
        case measure => simp [RowKit.intOf]; omega
    · obtain rfl : k = L.length := by omega
      have hkk : ¬ (L.length : Int) < (L.length : Int) := by omega
      go_wp2_with fail
      go_ret
      exact ⟨by rw [HK.out]; first | rfl | (rw [List.take_length]; rfl), rfl⟩
 · have hrb : (id == root) = false := by simp [hr]
   have HK := key 0 (.inl rfl) (by simp [hr])
   clear key
   go_wp2_with fail
   go_loopw [5, 18] (fun z y wr => ∃ k : Nat, y = .int .i64 k /\ k <= L.length /\ z = .int .i64 (0 + lkC (L.take k) id) /\ w = wr) (fun _ y _ => (L.length - (RowKit.intOf y).toNat))
   case atStart => exact ⟨0, rfl, Nat.zero_le _, rfl, rfl⟩
   case round =>
    obtain ⟨k, rfl, hk, rfl, rfl⟩ := hrel
    by_cases hlt : k < L.length
    · have hki : (k : Int) < (L.length : Int) := by omega
      obtain ⟨_, _, _, _, _, c5⟩ := H6.out k hlt
      have hs := Lib.hid (HS.out k hlt)
      have hli := HL.out k
      have hlk : (L.take k).length = k := by simp; omega
      rw [hlk] at hli
      have HIk := Lib.hid (HI.out k hlt)
      by_cases he : inB L[k].ents id = true
      · have HH : Hid (lkC (L.take (k + 1)) id = lkC (L.take k) id + 1) := by simp only [Hid]; rw [hs.out, if_pos he]
        go_wp2_with (go_at_call 9; refine (HIk.out).mono ?_; rintro e w' ⟨rfl, hw'⟩; rw [hw']; clear hw' w')
        go_roundw
        case rel => exact ⟨k + 1, by go_num, by omega, by rw [HH.out]; go_num, trivial⟩
        case measure => simp [RowKit.intOf]; omega
      · have he' : inB L[k].ents id = false := by simpa using he
        have HH : Hid (lkC (L.take (k + 1)) id = lkC (L.take k) id) := by simp only [Hid]; rw [hs.out, if_neg he]; rfl
        go_wp2_with (go_at_call 9; refine (HIk.out).mono ?_; rintro e w' ⟨rfl, hw'⟩; rw [hw']; clear hw' w')
        go_roundw
        case rel => exact ⟨k + 1, by go_num, by omega, by rw [HH.out]; simp, trivial⟩
        case measure => simp [RowKit.intOf]; omega
    · obtain rfl : k = L.length := by omega
      have hkk : ¬ (L.length : Int) < (L.length : Int) := by omega
      go_wp2_with fail
      go_ret
      exact ⟨by rw [HK.out, Int.zero_add]; rfl, rfl⟩
end
abbrev Abs := Int -> Option Ob
def V (T : Tab) (S : Abs) : Prop := ∀ k, (T k).map (·.ob) = S k
def updS (S : Abs) (i : Int) (o : Ob) : Abs := fun k => if k = i then some o else S k
def delS (S : Abs) (i : Int) : Abs := fun k => if k = i then none else S k
def decO (o : Ob) : Ob := { o with links := o.links - 1 }
def foldS (f : Abs -> Int -> List Int -> Option (Abs × List Int)) : List Int -> Abs -> List Int -> Option (Abs × List Int)
 | [], S, g => some (S, g)
 | x :: l, S, g => match f S x g with
  | none => none
  | some p => foldS f l p.1 p.2
def loosS : Nat -> Abs -> Int -> List Int -> Option (Abs × List Int)
 | 0, _, _, _ => none
 | n + 1, S, i, gone => match S i with
  | none => none
  | some o => if 1 < o.links then some (updS S i (decO o), gone) else foldS (loosS n) o.ents (delS S i) (gone ++ [i])
def dropO (o : Ob) (q x : Int) : Ob := { o with ents := without x o.ents, used := o.used - q }
def GoodS (S : Abs) : Prop := ∀ k o, S k = some o -> i64 k /\ (∀ x ∈ o.ents, i64 x) /\ o.ents.length < 1000000 /\ 1 <= o.links /\ o.links < 1000000
theorem V.some {T : Tab} {S : Abs} (h : V T S) {k : Int} {o : Ob} (hs : S k = some o) : ∃ r, T k = some r /\ r.ob = o := by
 have := h k
 rw [hs] at this
 cases hT : T k with
 | none => rw [hT] at this; cases this
 | some r => rw [hT] at this; exact ⟨r, rfl, by simpa using this⟩
theorem V.none {T : Tab} {S : Abs} (h : V T S) {k : Int} (hs : S k = none) : T k = none := by
 have := h k
 rw [hs] at this
 cases hT : T k with
 | none => rfl
 | some r => rw [hT] at this; cases this
theorem V.upd {T : Tab} {S : Abs} (h : V T S) (i : Int) (r : Rc) {o : Ob} (ho : r.ob = o) : V (upd T i r) (updS S i o) := fun k => by
 unfold YtmgfakfiiaeofaaGreat.Ho.upd updS
 split
 · rw [<- ho]; rfl
 · exact h k
theorem V.del {T : Tab} {S : Abs} (h : V T S) (i : Int) : V (del T i) (delS S i) := fun k => by
 unfold YtmgfakfiiaeofaaGreat.Ho.del delS
 split
 · rfl
 · exact h k
theorem V.good {T : Tab} {S : Abs} (h : V T S) (hg : GoodS S) : GoodT T := fun k r hr => by
 have := h k
 rw [hr] at this
 exact hg k r.ob this.symm
def HAt (w : World) (base tb mb : Nat) (F : Nat -> Prop) (N : Nat) (S : Abs) : Prop := ∃ D T, TAt w base tb mb D T /\ V T S /\ Maps.size D = N /\ tfoot tb mb T = F
theorem HAt.same {w w' : World} {base tb mb N : Nat} {F : Nat -> Prop} {S : Abs} (h : HAt w base tb mb F N S) (hs : ∀ k, F k -> w'.heap[k]? = w.heap[k]?) : HAt w' base tb mb F N S := by
 obtain ⟨D, T, h1, h2, h3, rfl⟩ := h
 exact ⟨D, T, h1.same hs, h2, h3, rfl⟩
theorem HAt.lt {w : World} {base tb mb N : Nat} {F : Nat -> Prop} {S : Abs} (h : HAt w base tb mb F N S) {k : Nat} (hk : F k) : base <= k /\ k < w.heap.size := by
 obtain ⟨D, T, h1, h2, h3, rfl⟩ := h
 exact h1.lt hk
theorem HAt.below {w w' : World} {base tb mb N : Nat} {F : Nat -> Prop} {S : Abs} (h : HAt w base tb mb F N S) (hb : Below w.heap.size w w') : HAt w' base tb mb F N S := h.same (fun k hk => hb.block k (h.lt hk).2)
end Go.Proofs.YtmgfakfiiaeofaaGreat.Ho
