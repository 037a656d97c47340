/- The iterator of package pages: what pieces tells, for every span. -/
import Derived.Test.YtfmeajanbmaimaaGreatKBase
import Derived.Shelf.Abstract
import Derived.Test.YtfmeajanbmaimaaGreatProg
import Derived.WalkKit
import Derived.Handy
import Derived.Laws.AppendOwn
import Derived.Laws.OwnMore
import Derived.Lib.Hide
import Derived.IntWalk
import Derived.RangeFuncNested
import Derived.RangeFuncBound
import Derived.RangeFuncCalls
import Derived.RangeFuncLeaves
import Derived.RangeFuncBox
import Derived.RangeFuncWrites
import Derived.OwnWalkIn
import Derived.TacticsInMore
import Derived.LoopNIn
import Derived.LoopIn
import Derived.Outline
import Derived.BigRegionIn
/- Sets of numbers: maps whose elements are empty structs. -/
namespace Go.Proofs.YtfmeajanbmaimaaGreat
open Go.RowKit Go.Sort
open Go.Maps (Keyed)
abbrev uv : Value := .agg #[]
def unitE : Value → Option (DataW Unit × List MemPlace)
  | .agg cs => if cs.size = 0 then some (.agg [], []) else none
  | _ => none
/-- A set of numbers that lies in block m. -/
def SAt (w : World) (m n : Nat) (S : Int → Bool) : Prop := ∃ D : DataW Unit, w.ownsMap Tryz.prog 3 unitE m n D ∧ Maps.size D = n ∧ ∀ k, Maps.has D (Wa.ky k) = S k
theorem keyedI : Keyed Tryz.prog 3 := Maps.int_keyed (show Tryz.prog.underlying 3 = some (.int .i64) by kernel_rfl)
theorem umU : Tryz.prog.underlying 95 = some (.map 3 126) := by kernel_rfl
theorem SAt.lt {w : World} {m n : Nat} {S : Int → Bool} (h : SAt w m n S) : m < w.heap.size := by obtain ⟨D, h, _⟩ := h; exact h.lt
theorem SAt.same {w w' : World} {m n : Nat} {S : Int → Bool} (h : SAt w m n S) (hs : w'.heap[m]? = w.heap[m]?) : SAt w' m n S := by
  obtain ⟨D, ⟨es, clock, hb, r⟩, r2⟩ := h
  exact ⟨D, ⟨es, clock, hs.trans hb, r⟩, r2⟩
theorem SAt.made {w : World} {m : Nat} (h : w.heap[m]? = some (.map #[] 0)) : SAt w m 0 (fun _ => false) := by
  have h1 := World.ownsMap_made (H := Unit) w Tryz.prog 3 unitE
  obtain ⟨es, clock, hb, r⟩ := h1
  have he : (w.alloc (.map #[] 0)).heap[w.heap.size]? = some (.map #[] 0) := (MapKept.heap_alloc w _).1
  rw [he] at hb
  cases hb
  exact ⟨.map [], ⟨_, _, h, r⟩, rfl, fun k => rfl⟩
theorem MAt.madeAt {w : World} {m : Nat} (h : w.heap[m]? = some (.map #[] 0)) (t : TypeId) : Wa.MAt w t m 0 (fun _ => none) := by
  have h1 := World.ownsMap_made (H := Unit) w Tryz.prog t Wa.ptrE
  obtain ⟨es, clock, hb, r⟩ := h1
  have he : (w.alloc (.map #[] 0)).heap[w.heap.size]? = some (.map #[] 0) := (MapKept.heap_alloc w _).1
  rw [he] at hb
  cases hb
  exact ⟨.map [], ⟨_, _, h, r⟩, rfl, fun k hk => ⟨rfl, fun B hB => by cases hB⟩⟩
theorem SAt.put {w : World} {m n : Nat} {S : Int → Bool} (h : SAt w m n S) (hn : n < 1000000) (x : Int) (hx : Wa.i64 x) :
    ∃ w', (Instr.mapUpdate 95 (.map (some m)) (.int .i64 x) uv).run Tryz.prog w = .ok () w' ∧ SAt w' m (if S x then n else n + 1) (fun k => k == x || S k) ∧ w.grownBy w' (some m) ∧ w'.heap.size = w.heap.size := by
  obtain ⟨D, h1, h2, h3⟩ := h
  have hkey := Wa.keyI hx
  obtain ⟨w', hrun, hm, hg⟩ := h1.store keyedI umU (by unfold maxLen; omega) hkey (val := uv) (d := .agg []) (ps := []) rfl
  have hkl := keyedI.key hkey
  have hsz : Maps.size (D.put (Wa.ky x) (.agg [])) = if S x then n else n + 1 := by
    rw [Maps.size_put (h1.tidy keyedI), h3, h2]
    try rfl
  have hs : w'.heap.size = w.heap.size := by
    obtain ⟨_, _, _, _, _, rfl⟩ := hg
    unfold ChangeMaps.setBlock; simp
  refine ⟨w', hrun, ⟨_, ?_, hsz, ?_⟩, hg.grown, hs⟩
  · obtain ⟨es, clock, hb, F, hle, hD⟩ := hm
    refine ⟨es, clock, hb, F, ?_, hD⟩
    have : Maps.size (D.put (Wa.ky x) (.agg [])) = es.size := by rw [hD]; simp [Maps.size, length_sorted]
    omega
  · intro k
    by_cases hkk : k = x
    · subst hkk
      rw [Maps.has_put_same h1.isMap hkl]; simp
    · rw [Maps.has_put_other (by simpa using hkk), h3]; simp [hkk]
end Go.Proofs.YtfmeajanbmaimaaGreat
/- What New of package kern makes, slot by slot. -/
namespace Go.Proofs.YtfmeajanbmaimaaGreat
open Go.RowKit Go.Sort
section
theorem exec_call0 {o : Oper} {ev : Operand → Value} {f : Nat} {ts : Array TypeId} {w : World} (ho : o.op = .call { callee := .value (.func f), args := #[], argTypes := ts }) (hf : ev (.func f) = .func (.func f) #[] #[]) (eg : ∀ args w, (callFunc f args).run Tryz.prog w = .ok (.enter f args) w) : (execOp ev o).run Tryz.prog w = .ok (.enter f #[]) w := by
  unfold execOp
  simp [ho, resolve, invoke, hf, eg, go_sem]
theorem exec_call2 {o : Oper} {ev : Operand → Value} {f : Nat} {x0 x1 : Operand} {ts : Array TypeId} {v0 v1 : Value} {w : World} (ho : o.op = .call { callee := .value (.func f), args := #[x0, x1], argTypes := ts }) (hf : ev (.func f) = .func (.func f) #[] #[]) (h0 : ev x0 = v0) (h1 : ev x1 = v1) (eg : ∀ args w, (callFunc f args).run Tryz.prog w = .ok (.enter f args) w) : (execOp ev o).run Tryz.prog w = .ok (.enter f #[v0, v1]) w := by
  unfold execOp
  simp [ho, resolve, invoke, hf, h0, h1, eg, go_sem]
end
/-- A thread of this clearance that has done nothing yet; a device that has nothing. -/
def thZ : Array Value := #[.int .i64 4, .slice none 0 0, .int .i64 0, .int .i64 0, .int .u64 0, .int .u64 0, .int .u64 0, .int .u64 0, .int .u64 0, .int .u64 0, .int .u64 0, .int .u64 0, .int .u64 0, .int .u64 0, .int .u64 0, .int .u64 0, .int .u64 0, .int .u64 0, .int .u64 0, .int .u64 0, .int .u64 0, .bool false]
def dvZ : Array Value := #[.slice none 0 0, .slice none 0 0]
def NTab (lo : Nat) (r : Int) (v : Value) (W : World) (own : Ko.Own) : Prop := ∃ base tb mb D rr, v = Wa.pv tb ∧ lo ≤ base ∧ Ho.TAt W base tb mb D (Ho.T0 r rr) ∧ rr.ob = Ho.root0 r 2 [] ∧ Maps.size D = 1 ∧ ∀ k, Ho.tfoot tb mb (Ho.T0 r rr) k → own k = some 13
def NRms (v : Value) (W : World) (own : Ko.Own) : Prop := ∃ rb F, v = Wa.pv rb ∧ Wa.RA W rb F [] (fun _ => []) 0 ∧ (∀ k, F k → k < W.heap.size) ∧ ∀ k, F k → own k = some 14
def NEmp (d : Nat) (v : Value) (W : World) (own : Ko.Own) : Prop := ∃ m, v = .map (some m) ∧ own m = some d ∧ W.heap[m]? = some (.map #[] 0)
def NFil (d cI pI pd : Nat) (key : Int) (own : Ko.Own) (env : Nat → Value) (li : Array Bool) (W : World) : Prop := ∃ m, env d = .map (some m) ∧ own m = some d ∧ (if li.getD cI false = true then li.getD pI false = true ∧ ∃ B, env pd = Wa.pv B ∧ Wa.MAt W 3 m 1 (Wa.updF (fun _ => none) (Wa.ky key) (some B)) else W.heap[m]? = some (.map #[] 0))
def NBox (d : Nat) (cs : Array Value) (ty : TypeId) (v : Value) (W : World) (own : Ko.Own) : Prop := ∃ B, v = Wa.pv B ∧ own B = some d ∧ W.heap[B]? = some (.cells cs ty (0, 0))
def bN (b : Bool) : Nat := if b = true then 1 else 0
theorem bN_le (b : Bool) : bN b ≤ 1 := by cases b <;> decide
theorem key_of {n : Int} (h : Ho.isCt n = true) : Wa.i64 n := by
  unfold Ho.isCt at h; simp at h; unfold Wa.i64; omega
def NSet (r c t : Int) (own : Ko.Own) (env : Nat → Value) (li : Array Bool) (W : World) : Prop := ∃ m S, env 31 = .map (some m) ∧ own m = some 31 ∧ SAt W m (bN (li.getD 27 false) + bN (li.getD 31 false) + bN (li.getD 35 false)) S ∧ ∀ k, S k = ((li.getD 27 false && k == r) || (li.getD 31 false && k == c) || (li.getD 35 false && k == t))
def knV (v13 v14 v15 v16 v23 v24 v30 v41 : Value) : Array Value := #[v13, v14, v15, v16, v23, v24, v30, v41, .int .i64 0]
def NG (r c t : Int) (b0 lo : Nat) (d : Nat) (own : Ko.Own) (env : Nat → Value) (li : Array Bool) (W : World) : Prop :=
  match d with
  | 10 => env 10 = .pointer (some ⟨b0, 0, none⟩)
  | 11 => env 11 = .int .i64 r
  | 12 => env 12 = .agg #[.int .i64 2, .slice none 0 0]
  | 13 => NTab lo r (env 13) W own
  | 14 => NRms (env 14) W own
  | 15 => NEmp 15 (env 15) W own
  | 16 => NEmp 16 (env 16) W own
  | 17 => NFil 17 13 12 22 t own env li W
  | 18 => env 18 = .pointer (some ⟨b0, 2, none⟩)
  | 19 => env 19 = .int .i64 t
  | 20 => env 20 = .agg #[.int .i64 4, .slice none 0 0]
  | 21 => env 21 = .agg thZ
  | 22 => NBox 22 thZ 123 (env 22) W own
  | 23 => li.getD 7 false = true ∧ li.getD 13 false = true ∧ env 23 = env 17
  | 24 => NEmp 24 (env 24) W own
  | 25 => NFil 25 21 20 29 c own env li W
  | 26 => env 26 = .pointer (some ⟨b0, 1, none⟩)
  | 27 => env 27 = .int .i64 c
  | 28 => env 28 = .agg dvZ
  | 29 => NBox 29 dvZ 116 (env 29) W own
  | 30 => li.getD 16 false = true ∧ li.getD 21 false = true ∧ env 30 = env 25
  | 31 => NSet r c t own env li W
  | 32 => env 32 = .pointer (some ⟨b0, 0, none⟩)
  | 33 => env 33 = .int .i64 r
  | 34 => env 34 = .agg #[]
  | 35 => env 35 = .pointer (some ⟨b0, 1, none⟩)
  | 36 => env 36 = .int .i64 c
  | 37 => env 37 = .agg #[]
  | 38 => env 38 = .pointer (some ⟨b0, 2, none⟩)
  | 39 => env 39 = .int .i64 t
  | 40 => env 40 = .agg #[]
  | 41 => li.getD 23 false = true ∧ env 41 = env 31
  | 42 => (li.getD 3 false = true ∧ li.getD 4 false = true ∧ li.getD 5 false = true ∧ li.getD 6 false = true) ∧ (li.getD 14 false = true ∧ li.getD 15 false = true ∧ li.getD 22 false = true ∧ li.getD 36 false = true) ∧ env 42 = .agg (knV (env 13) (env 14) (env 15) (env 16) (env 23) (env 24) (env 30) (env 41))
  | 43 => li.getD 37 false = true ∧ ∃ cs, env 42 = .agg cs ∧ NBox 43 cs 97 (env 43) W own
  | 5 => li.getD 38 false = true ∧ env 5 = env 43
  | _ => True
/-- Which slot's map an operation fills. -/
def ntgt (i : Nat) : Option Nat := if i = 13 then some 17 else if i = 21 then some 25 else if i = 27 ∨ i = 31 ∨ i = 35 then some 31 else none
/-- A slot's facts stay as long as its own blocks do. -/
theorem NG_loc {l : List Oper} {w : World} (r c t : Int) (b0 lo : Nat)
    (h7 : (l[7]?).bind (·.dst) = some 17) (h12 : (l[12]?).bind (·.dst) = some 22) (h16 : (l[16]?).bind (·.dst) = some 25) (h20 : (l[20]?).bind (·.dst) = some 29) (h23 : (l[23]?).bind (·.dst) = some 31)
    (h3 : (l[3]?).bind (·.dst) = some 13) (h4 : (l[4]?).bind (·.dst) = some 14) (h5 : (l[5]?).bind (·.dst) = some 15) (h6 : (l[6]?).bind (·.dst) = some 16) (h14 : (l[14]?).bind (·.dst) = some 23) (h15 : (l[15]?).bind (·.dst) = some 24) (h22 : (l[22]?).bind (·.dst) = some 30) (h36 : (l[36]?).bind (·.dst) = some 41) (h37 : (l[37]?).bind (·.dst) = some 42) (h38 : (l[38]?).bind (·.dst) = some 43) :
    ∀ (d : Nat) (own own' : Ko.Own) (env env' : Nat → Value) (li li' : Array Bool) (W W' : World), NG r c t b0 lo d own env li W →
      (∀ j, own j = some d → own' j = some d ∧ W'.heap[j]? = W.heap[j]?) → W.heap.size ≤ W'.heap.size → Below w.heap.size w W → Below w.heap.size w W' → env' d = env d →
      (∀ i k, li.getD i false = true → (l[i]?).bind (·.dst) = some k → env' k = env k) → (∀ i, li.getD i false = true → li'.getD i false = true) → (∀ c, ntgt c = some d → li'.getD c false = li.getD c false) → NG r c t b0 lo d own' env' li' W' := by
  intro d own own' env env' li li' W W' h hown hz hB hB' hd he hm hi
  have emp : ∀ k, NEmp k (env k) W own → (∀ j, own j = some k → own' j = some k ∧ W'.heap[j]? = W.heap[j]?) → env' k = env k → NEmp k (env' k) W' own' := fun k ⟨m, h1, h2, h3⟩ ho hk => ⟨m, hk.trans h1, (ho m h2).1, (ho m h2).2.trans h3⟩
  have box : ∀ k cs ty v v', NBox k cs ty v W own → (∀ j, own j = some k → own' j = some k ∧ W'.heap[j]? = W.heap[j]?) → v' = v → NBox k cs ty v' W' own' := fun k cs ty v v' ⟨m, h1, h2, h3⟩ ho hk => ⟨m, hk.trans h1, (ho m h2).1, (ho m h2).2.trans h3⟩
  have fil : ∀ k cI pI pd key, (l[pI]?).bind (·.dst) = some pd → NFil k cI pI pd key own env li W → (∀ j, own j = some k → own' j = some k ∧ W'.heap[j]? = W.heap[j]?) → env' k = env k → li'.getD cI false = li.getD cI false → NFil k cI pI pd key own' env' li' W' := by
    intro k cI pI pd key hp ⟨m, h1, h2, h3⟩ ho hk hc
    refine ⟨m, hk.trans h1, (ho m h2).1, ?_⟩
    rw [hc]
    split
    · rename_i hx
      rw [if_pos hx] at h3
      obtain ⟨h4, B, h5, h6⟩ := h3
      exact ⟨hm _ h4, B, (he pI pd h4 hp).trans h5, h6.same (ho m h2).2⟩
    · rename_i hx
      rw [if_neg hx] at h3
      exact (ho m h2).2.trans h3
  unfold NG at h ⊢
  split at h <;> try (exact hd.trans h)
  · obtain ⟨base, tb, mb, D, rr, q1, q2, q3, q4, q5, q6⟩ := h
    exact ⟨base, tb, mb, D, rr, hd.trans q1, q2, q3.same (fun k hk => (hown k (q6 k hk)).2), q4, q5, fun k hk => (hown k (q6 k hk)).1⟩
  · obtain ⟨rb, F, q1, q2, q3, q4⟩ := h
    exact ⟨rb, F, hd.trans q1, q2.same hz (fun k _ hk => (hown k (q4 k hk)).2), fun k hk => Nat.lt_of_lt_of_le (q3 k hk) hz, fun k hk => (hown k (q4 k hk)).1⟩
  · exact emp _ h hown hd
  · exact emp _ h hown hd
  · exact fil _ _ _ _ _ h12 h hown hd (hi 13 rfl)
  · exact box _ _ _ _ _ h hown hd
  · exact ⟨hm _ h.1, hm _ h.2.1, by rw [hd, h.2.2]; exact (he 7 17 h.1 h7).symm⟩
  · exact emp _ h hown hd
  · exact fil _ _ _ _ _ h20 h hown hd (hi 21 rfl)
  · exact box _ _ _ _ _ h hown hd
  · exact ⟨hm _ h.1, hm _ h.2.1, by rw [hd, h.2.2]; exact (he 16 25 h.1 h16).symm⟩
  · obtain ⟨m, S, q1, q2, q3, q4⟩ := h
    rw [NSet, hi 27 rfl, hi 31 rfl, hi 35 rfl]
    exact ⟨m, S, hd.trans q1, (hown m q2).1, q3.same (hown m q2).2, q4⟩
  · exact ⟨hm _ h.1, by rw [hd, h.2]; exact (he 23 31 h.1 h23).symm⟩
  · obtain ⟨⟨a1, a2, a3, a4⟩, ⟨a5, a6, a7, a8⟩, a9⟩ := h
    refine ⟨⟨hm _ a1, hm _ a2, hm _ a3, hm _ a4⟩, ⟨hm _ a5, hm _ a6, hm _ a7, hm _ a8⟩, ?_⟩
    rw [hd, a9, he 3 13 a1 h3, he 4 14 a2 h4, he 5 15 a3 h5, he 6 16 a4 h6, he 14 23 a5 h14, he 15 24 a6 h15, he 22 30 a7 h22, he 36 41 a8 h36]
  · obtain ⟨a1, cs, a2, a3⟩ := h
    exact ⟨hm _ a1, cs, (he 37 42 a1 h37).trans a2, box _ _ _ _ _ a3 hown hd⟩
  · exact ⟨hm _ h.1, by rw [hd, h.2]; exact (he 38 43 h.1 h38).symm⟩
  · trivial
end Go.Proofs.YtfmeajanbmaimaaGreat
/- What stands in memory of a row of bytes in pages, and the small calls of package pages. -/
namespace Go.Proofs.YtfmeajanbmaimaaGreat.Pg
open Go.RowKit
theorem wrap64_id {n : Int} (h0 : -9223372036854775808 ≤ n) (h1 : n < 9223372036854775808) : wrap64 n = n := by unfold wrap64; omega
def u8s (l : List UInt8) : List Value := l.map fun b => .int .u8 (b.toNat : Int)
/-- The bytes of page i, with 0 behind the end. -/
def pad (d : List UInt8) (i : Nat) : List UInt8 := (List.range 64).map fun j => d.getD (64 * i + j) 0
def lfs (l : List (Nat × Bool)) : List Value := l.flatMap fun x => [.pointer (some ⟨x.1, 0, none⟩), .bool x.2]
theorem lfs_at : ∀ (l : List (Nat × Bool)) (i : Nat) (x : Nat × Bool), l[i]? = some x → (lfs l)[i * 2]? = some (.pointer (some ⟨x.1, 0, none⟩)) ∧ (lfs l)[i * 2 + 1]? = some (.bool x.2)
  | [], i, x, h => by simp at h
  | y :: l, 0, x, h => by simp at h; subst h; exact ⟨rfl, rfl⟩
  | y :: l, i + 1, x, h => by
    have := lfs_at l i x (by simpa using h)
    rw [show (i + 1) * 2 = i * 2 + 1 + 1 from by omega]
    exact this
/-- The object's row of leaves and its own pages are none of the blocks K, which are all there already. -/
structure Foe (K : Nat → Prop) (w : World) (Bb : Nat) (ls : List (Nat × Bool)) : Prop where
  old : ∀ k, K k → k < w.heap.size
  pg : ∀ x ∈ ls, ¬ K x.1
  row : ∀ c t f a n cp, w.heap[Bb]? = some (.cells c t f) → c[1]? = some (.slice (some a) n cp) → ¬ K a.block
/-- No blocks at all. -/
def N0 : Nat → Prop := fun _ => False
theorem foe0 (w : World) (Bb : Nat) (ls : List (Nat × Bool)) : Foe N0 w Bb ls := ⟨fun _ h => h.elim, fun _ _ h => h, fun _ _ _ _ _ _ _ _ h => h⟩
theorem Foe.kept {K : Nat → Prop} {w w' : World} {Bb : Nat} {ls : List (Nat × Bool)} (h : Foe K w Bb ls) (hs : w.heap.size ≤ w'.heap.size) (hb : w'.heap[Bb]? = w.heap[Bb]?) : Foe K w' Bb ls := ⟨fun k hk => Nat.lt_of_lt_of_le (h.old k hk) hs, h.pg, fun c t f a n cp e => h.row c t f a n cp (hb.symm.trans e)⟩
/-- The object at Bb holds the bytes d; its leaves are ls: the page's block, and whether it is its own. What it may write lies at or behind base. -/
structure BAt (K : Nat → Prop) (w : World) (base Bb : Nat) (d : List UInt8) (ls : List (Nat × Bool)) : Prop where
  blk : ∃ v, w.heap[Bb]? = some (.cells #[.int .i64 d.length, v] 156 (0, 0)) ∧ w.ownsRow base 153 2 v ls.length (lfs ls)
  pgs : ∀ (i : Nat) (x : Nat × Bool), ls[i]? = some x → w.heap[x.1]? = some (.cells (u8s (pad d i)).toArray 301 (0, 0)) ∧ (x.2 = true → base ≤ x.1)
  dis : (ls.map (·.1)).Nodup
  len : d.length ≤ 4096
  cnt : ls.length = (d.length + 63) / 64
  bb : base ≤ Bb
  foe : Foe K w Bb ls
variable {K : Nat → Prop}
theorem pagesOf_any (n : Nat) (hn : n ≤ 4096) (w : World) : Calls Tryz.prog 219 #[.int .i64 n] w fun e w' => e = .returned (.int .i64 ((n + 63) / 64 : Nat)) ∧ w' = w := by
  go_enter Tryz.func219, Tryz.ntmps219
  have h : ((n : Int) + 64 - 1) / 64 = (((n + 63) / 64 : Nat) : Int) := by omega
  go_wp2
  go_ret
  rw [h]
  exact ⟨rfl, rfl⟩
theorem Len_any {base Bb : Nat} {d : List UInt8} {ls : List (Nat × Bool)} {w : World} (h : BAt K w base Bb d ls) : Calls Tryz.prog 30 #[.pointer (some ⟨Bb, 0, none⟩)] w fun e w' => e = .returned (.int .i64 d.length) ∧ w' = w := by
  obtain ⟨v, hv, _⟩ := h.blk
  have c0 : w.cell? ⟨Bb, 0, none⟩ = some (.int .i64 d.length) := by simp [World.cell?, hv]
  clear hv h
  go_enter Tryz.func30, Tryz.ntmps30
  go_wp2
  go_ret
  exact ⟨rfl, rfl⟩
/-- May n bytes from at on be had, of so many? -/
def fitsB (len : Nat) (at' n : Int) : Bool := decide (0 ≤ at' ∧ 0 ≤ n ∧ n ≤ len - at')
theorem check_nil (a n : Int) (w : World) : Calls Tryz.prog 89 #[.pointer none, .int .i64 a, .int .i64 n] w fun e w' => e = .returned (.int .i64 4) ∧ w' = w := by
  go_enter Tryz.func89, Tryz.ntmps89
  go_wp2
  go_ret
  exact ⟨rfl, rfl⟩
theorem check_any {base Bb : Nat} {d : List UInt8} {ls : List (Nat × Bool)} {w : World} (h : BAt K w base Bb d ls) (a n : Int) (ha : a ≤ 9223372036854775807) : Calls Tryz.prog 89 #[.pointer (some ⟨Bb, 0, none⟩), .int .i64 a, .int .i64 n] w fun e w' => e = .returned (.int .i64 (if fitsB d.length a n = true then 0 else 9)) ∧ w' = w := by
  obtain ⟨v, hv, _⟩ := h.blk
  have c0 : w.cell? ⟨Bb, 0, none⟩ = some (.int .i64 d.length) := by simp [World.cell?, hv]
  have hl := h.len
  clear hv h
  unfold fitsB
  by_cases h1 : a < 0
  · have hd : decide (0 ≤ a ∧ 0 ≤ n ∧ n ≤ (d.length : Int) - a) = false := by simp; omega
    rw [hd]; clear hd
    go_enter Tryz.func89, Tryz.ntmps89
    go_wp2
    go_ret
    exact ⟨rfl, rfl⟩
  · by_cases h2 : n < 0
    · have hd : decide (0 ≤ a ∧ 0 ≤ n ∧ n ≤ (d.length : Int) - a) = false := by simp; omega
      rw [hd]; clear hd
      go_enter Tryz.func89, Tryz.ntmps89
      go_wp2
      go_ret
      exact ⟨rfl, rfl⟩
    · have hw : wrap64 ((d.length : Int) - a) = (d.length : Int) - a := wrap64_id (by omega) (by omega)
      by_cases h3 : (d.length : Int) - a < n
      · have hd : decide (0 ≤ a ∧ 0 ≤ n ∧ n ≤ (d.length : Int) - a) = false := by simp; omega
        rw [hd]; clear hd
        go_enter Tryz.func89, Tryz.ntmps89
        go_wp2
        go_ret
        exact ⟨rfl, rfl⟩
      · have hd : decide (0 ≤ a ∧ 0 ≤ n ∧ n ≤ (d.length : Int) - a) = true := by simp; omega
        rw [hd]; clear hd
        go_enter Tryz.func89, Tryz.ntmps89
        go_wp2
        go_ret
        exact ⟨rfl, rfl⟩
end Go.Proofs.YtfmeajanbmaimaaGreat.Pg
namespace Go.Proofs.YtfmeajanbmaimaaGreat.Pg
open Go.RowKit
attribute [local go_sem] Oper.semAt_some
/-- Where the piece that begins at x ends, of a span up to e. -/
def nx (e x : Nat) : Nat := min e (x - x % 64 + 64)
theorem nx_lt {e x : Nat} (h : x < e) : x < nx e x := by unfold nx; omega
theorem nx_le (e x : Nat) : nx e x ≤ e := by unfold nx; omega
/-- Where the pieces from f on up to e begin. -/
def chn : Nat → Nat → Nat → List Nat
  | 0, _, _ => []
  | k + 1, e, f => if f < e then f :: chn k e (nx e f) else []
def allPc (a e : Nat) : List Nat := chn (e - a) e a
theorem chn_step {k e f : Nat} (h : f < e) (hk : e - f ≤ k) : ∃ k', k = k' + 1 ∧ e - nx e f ≤ k' ∧ chn k e f = f :: chn k' e (nx e f) := by
  have := nx_lt h
  obtain ⟨k', rfl⟩ : ∃ k', k = k' + 1 := ⟨k - 1, by omega⟩
  exact ⟨k', rfl, by omega, by rw [chn, if_pos h]⟩
theorem chn_done {k e f : Nat} (h : ¬ f < e) : chn k e f = [] := by cases k <;> simp [chn, h]
/-- The begin of a piece, within a span up to e. -/
abbrev Pc (e : Nat) := { x : Nat // x < e }
def pcV (e x : Nat) : Value := .agg #[.int .i64 (x / 64 : Nat), .int .i64 (x % 64 : Nat), .int .i64 (x % 64 + nx e x - x : Nat)]
def encP {e : Nat} (x : Pc e) : Array Value := #[pcV e x.1]
theorem pieces_any (a n : Int) (w : World) : Calls Tryz.prog 91 #[.int .i64 a, .int .i64 n] w fun e w' => e = .returned (.func (.func 164) #[] #[.pointer (some ⟨w.heap.size, 0, none⟩), .pointer (some ⟨w.heap.size + 1, 0, none⟩)]) ∧ w' = (w.alloc (.cells #[.int .i64 a] 3)).alloc (.cells #[.int .i64 n] 3) := by
  go_enter Tryz.func91, Tryz.ntmps91
  go_wp2
  go_ret
  exact ⟨rfl, rfl⟩
theorem abides_below {β : Type} {B : Nat} {J : β → World → Prop} (h : AbidesFrom B J) {s : β} {W W' : World} (hs : J s W) (hb : Below W.heap.size W W') : J s W' :=
  h s W W' none hs ⟨hb.os, hb.tape, hb.output, hb.size, fun k hk _ => hb.block k hk⟩ (fun r e => by cases e)
set_option maxRecDepth 100000 in
set_option maxHeartbeats 2000000 in
theorem pieces1_in (n : Nat) (hn : 1 ≤ n) (l Ba Bn B0 : Nat) (a m : Nat) (ham : a + m ≤ 4096) (J Jx : List (Pc (a + m)) → World → Prop) (hJ : AbidesFrom B0 J)
    (hY : ∀ pre x W, J pre W → pre.length < 4097 → YieldAt Fence.wide (n - 1) Tryz.prog l (encP x) W fun e W' =>
      (e = .returned (.bool true) ∧ J (pre ++ [x]) W') ∨ (e = .returned (.bool false) ∧ Jx (pre ++ [x]) W'))
    (W : World) (t0 : W.cell? ⟨Ba, 0, none⟩ = some (.int .i64 a)) (t1 : W.cell? ⟨Bn, 0, none⟩ = some (.int .i64 m)) (h0 : J [] W) :
    CallsIn Fence.wide n Tryz.prog 164 #[.func (.yield l) #[] #[], .pointer (some ⟨Ba, 0, none⟩), .pointer (some ⟨Bn, 0, none⟩)] W fun e W' => (∃ v, e = .returned v) ∧
      ((∃ zs, zs.map (·.1) = allPc a (a + m) ∧ J zs W') ∨ (∃ pre, pre.map (·.1) <+: allPc a (a + m) ∧ Jx pre W')) := by
  have h1 : Fence.wide.fn 164 := trivial
  have hro : Fence.wide.round = none := rfl
  refine callsIn_of_wp Tryz.func164 rfl h1 ?_ hro
  simp only [Tryz.ntmps164, List.size_toArray, List.length_cons, List.length_nil, Nat.reduceAdd, Nat.reduceSub, Array.replicate_succ, Array.replicate_zero, List.push_toArray, List.append_toArray, List.nil_append, List.cons_append]
  gi_wp2_with fail
  gi_region
  gi_wp2_with fail
  gi_loopw [4] (fun x wr => ∃ (pre : List (Pc (a + m))) (k cur : Nat), x = .int .i64 cur ∧ (allPc a (a + m) = pre.map (·.1) ++ chn k (a + m) cur ∧ a + m - cur ≤ k ∧ cur ≤ a + m ∧ pre.length ≤ cur) ∧ J pre wr) (fun x _ => (a + m - intOf x).toNat)
  case atStart => exact ⟨[], m, a, rfl, ⟨by unfold allPc; simp, by omega, by omega, by simp⟩, abides_below hJ h0 ⟨rfl, rfl, rfl, Nat.le_refl _, fun _ _ => rfl⟩⟩
  case round =>
    obtain ⟨pre, k, cur, rfl, ⟨hA, hk, hce, hpl⟩, hJs⟩ := hrel
    by_cases hlt : cur < a + m
    · obtain ⟨k', rfl, hk', hch⟩ := chn_step hlt hk
      have hnl := nx_lt hlt
      have hne := nx_le (a + m) cur
      have HA : Hid (allPc a (a + m) = (pre ++ [(⟨cur, hlt⟩ : Pc (a + m))]).map (·.1) ++ chn k' (a + m) (nx (a + m) cur)) := by simp only [Hid]; rw [hA, hch]; simp
      clear hA hch
      have hci : (cur : Int) < (a : Int) + m := by omega
      by_cases hmin : (a : Int) + m ≤ (cur : Int) - cur % 64 + 64
      · have hnx : nx (a + m) cur = a + m := by unfold nx; omega
        have hpv : pcV (a + m) cur = .agg #[.int .i64 ((cur : Int) / 64), .int .i64 ((cur : Int) % 64), .int .i64 ((cur : Int) % 64 + ((a : Int) + m) - cur)] := by
          unfold pcV; rw [hnx, show ((cur % 64 + (a + m) - cur : Nat) : Int) = (cur : Int) % 64 + ((a : Int) + m) - cur from by omega]; rfl
        obtain ⟨fn, tmps, assign, body, hy0, hR⟩ := hY pre ⟨cur, hlt⟩ (wr.alloc (.cells #[.int .i64 ((cur : Int) / 64), .int .i64 ((cur : Int) % 64), .int .i64 ((cur : Int) % 64 + ((a : Int) + m) - cur)] 149)) (abides_below hJ hJs ((Below.refl _ _).alloc (Nat.le_refl _) _)) (by omega)
        dsimp only [encP] at hy0
        rw [hpv] at hy0
        rw [hnx] at HA
        clear hpv
        gi_wp2
        refine hR.mono ?_
        rintro e W3 (⟨rfl, hJ3⟩ | ⟨rfl, hJx3⟩)
        · have HJ3 := Lib.hid hJ3
          clear hJ3 hR
          gi_wp2
          go_roundw
          case rel => exact ⟨pre ++ [⟨cur, hlt⟩], k', a + m, by simp, ⟨HA.out, by omega, by omega, by simp; omega⟩, HJ3.out⟩
          case measure => simp [intOf]; omega
        · gi_wp2
          refine bodyPost_ret (results_none rfl _ _ _) rfl ?_
          exact ⟨⟨_, rfl⟩, .inr ⟨_, ⟨_, HA.out.symm⟩, hJx3⟩⟩
      · have hnx : nx (a + m) cur = cur - cur % 64 + 64 := by unfold nx; omega
        have hpv : pcV (a + m) cur = .agg #[.int .i64 ((cur : Int) / 64), .int .i64 ((cur : Int) % 64), .int .i64 ((cur : Int) % 64 + ((cur : Int) - (cur : Int) % 64 + 64) - cur)] := by
          unfold pcV; rw [hnx, show ((cur % 64 + (cur - cur % 64 + 64) - cur : Nat) : Int) = (cur : Int) % 64 + ((cur : Int) - (cur : Int) % 64 + 64) - cur from by omega]; rfl
        obtain ⟨fn, tmps, assign, body, hy0, hR⟩ := hY pre ⟨cur, hlt⟩ (wr.alloc (.cells #[.int .i64 ((cur : Int) / 64), .int .i64 ((cur : Int) % 64), .int .i64 ((cur : Int) % 64 + ((cur : Int) - (cur : Int) % 64 + 64) - cur)] 149)) (abides_below hJ hJs ((Below.refl _ _).alloc (Nat.le_refl _) _)) (by omega)
        dsimp only [encP] at hy0
        rw [hpv] at hy0
        rw [hnx] at HA
        clear hpv
        gi_wp2
        refine hR.mono ?_
        rintro e W3 (⟨rfl, hJ3⟩ | ⟨rfl, hJx3⟩)
        · have HJ3 := Lib.hid hJ3
          clear hJ3 hR
          gi_wp2
          go_roundw
          case rel => exact ⟨pre ++ [⟨cur, hlt⟩], k', cur - cur % 64 + 64, by congr 1; omega, ⟨HA.out, by omega, by omega, by simp; omega⟩, HJ3.out⟩
          case measure => simp [intOf]; omega
        · gi_wp2
          refine bodyPost_ret (results_none rfl _ _ _) rfl ?_
          exact ⟨⟨_, rfl⟩, .inr ⟨_, ⟨_, HA.out.symm⟩, hJx3⟩⟩
    · have hci : ¬ (cur : Int) < (a : Int) + m := by omega
      rw [chn_done hlt, List.append_nil] at hA
      have HA := Lib.hid hA
      clear hA
      gi_wp2
      go_end0
      exact ⟨⟨_, rfl⟩, .inl ⟨_, HA.out.symm, hJs⟩⟩
theorem pieces_stops (n : Nat) (hn : 1 ≤ n) (Ba Bn a m : Nat) (w : World) (ham : a + m ≤ 4096) (t0 : w.cell? ⟨Ba, 0, none⟩ = some (.int .i64 a)) (t1 : w.cell? ⟨Bn, 0, none⟩ = some (.int .i64 m)) (hBa : Ba < w.heap.size) (hBn : Bn < w.heap.size) :
    SeqStopsK Fence.wide n Tryz.prog 164 #[.pointer (some ⟨Ba, 0, none⟩), .pointer (some ⟨Bn, 0, none⟩)] (encP (e := a + m)) (fun _ _ => True) (fun zs => zs.map (·.1) = allPc a (a + m)) (fun pre => pre.map (·.1) <+: allPc a (a + m)) 4097 w := fun l J Jx W hW hJ _ hY h0 =>
  pieces1_in n hn l Ba Bn W.heap.size a m ham J Jx hJ (fun pre x W h h' => (hY pre x W h h').mono (fun _ _ h => h.imp (fun h => ⟨h.1, h.2.1⟩) id)) W ((hW.cell (p := ⟨Ba, 0, none⟩) hBa).trans t0) ((hW.cell (p := ⟨Bn, 0, none⟩) hBn).trans t1) h0
end Go.Proofs.YtfmeajanbmaimaaGreat.Pg
