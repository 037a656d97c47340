/- A row of bytes that a call has made, wherever its block is marked, and appends onto it. -/
import Derived.Test.YtfcmgodeehjnoaaDoorTail
import Derived.Test.YtfcmgodeehjnoaaDoorBase
import Derived.Deep.Upon
import Derived.Deep.MidRow
import Derived.Lib.LazyBuf
import Derived.Lib.ConvBytes
import Derived.Lib.UnsafeStr
namespace Go.Proofs.YtfcmgodeehjnoaaDoor
open Go.RowKit Go.Sort

def bc (l : List UInt8) : List Value := l.map fun b => .int .u8 (b.toNat : Int)
theorem bc_len (l : List UInt8) : (bc l).length = l.length := by simp [bc]
theorem bc_get (l : List UInt8) (j : Nat) (h : j < l.length) : (bc l)[j]? = some (.int .u8 (l[j].toNat : Int)) := by simp [bc, h]
/-- A row of bytes in a block of its own. -/
def BR (w : World) (B : Nat) (v : Value) (xs : List UInt8) : Prop :=
  ∃ g cap, v = .slice (some ⟨g, 0, none⟩) xs.length cap ∧ B ≤ g ∧ g < w.heap.size ∧ xs.length ≤ cap ∧ cap ≤ maxLen ∧
    (∀ j (h : j < xs.length), w.cell? ⟨g, j, none⟩ = some (.int .u8 (xs[j].toNat : Int))) ∧ ∀ j, j < cap → (w.cell? ⟨g, j, none⟩).isSome = true ∧ w.frozen? ⟨g, j, none⟩ = false
theorem addr_add (g j : Nat) : (⟨g, 0, none⟩ : Addr).add j = ⟨g, j, none⟩ := by
  by_cases h : j = 0 <;> simp [Addr.add, h]
theorem BR.own {w : World} {B : Nat} {v : Value} {xs : List UInt8} (h : BR w B v xs) : ∃ g, v.ownBlock = some g ∧ B ≤ g ∧ g < w.heap.size := by
  obtain ⟨g, cap, rfl, h1, h2, _⟩ := h
  exact ⟨g, rfl, h1, h2⟩
theorem BR.kept {w w' : World} {B : Nat} {v : Value} {xs : List UInt8} (h : BR w B v xs) (hk : ∀ g, v.ownBlock = some g → w'.heap[g]? = w.heap[g]?) (hz : w.heap.size ≤ w'.heap.size) : BR w' B v xs := by
  obtain ⟨g, cap, rfl, h1, h2, h3, h4, h5, h6⟩ := h
  have e := hk g rfl
  exact ⟨g, cap, rfl, h1, Nat.lt_of_lt_of_le h2 hz, h3, h4, fun j hj => (World.cell?_of_block (a := ⟨g, j, none⟩) e).trans (h5 j hj), fun j hj => ⟨by rw [World.cell?_of_block (a := ⟨g, j, none⟩) e]; exact (h6 j hj).1, by rw [World.frozen?_of_block (a := ⟨g, j, none⟩) e]; exact (h6 j hj).2⟩⟩
theorem BR.below {w w' : World} {B : Nat} {v : Value} {xs : List UInt8} (h : BR w B v xs) (hb : Below w.heap.size w w') : BR w' B v xs :=
  h.kept (fun g hg => hb.block g (by obtain ⟨g', e, _, hl⟩ := h.own; rw [e] at hg; cases hg; exact hl)) hb.size
theorem BR.mono {w : World} {B B' : Nat} {v : Value} {xs : List UInt8} (h : BR w B v xs) (hb : B' ≤ B) : BR w B' v xs := by
  obtain ⟨g, cap, h0, h1, h2⟩ := h
  exact ⟨g, cap, h0, Nat.le_trans hb h1, h2⟩

/-- What an append leaves of everything else. -/
def Kept (w w' : World) (v v' : Value) : Prop := ∀ k, k < w.heap.size → some k ≠ v.ownBlock → w'.heap[k]? = w.heap[k]? ∧ some k ≠ v'.ownBlock

section
variable {P : Program}
theorem br_append (w : World) (B : Nat) (v : Value) (xs news : List UInt8) (x : Value) (t tx ty e : TypeId) (i : TypeInfo) (ht : P.underlying t = some (.slice e)) (hi : P.info? e = some i) (hz : i.zero = some (.int .u8 0)) (hsize : i.size = 1) (hby : i.bytes = 1)
    (h : BR w B v xs) (hs : Src P 1 tx x news.length (bc news) w) (hlim : xs.length + news.length ≤ 140737488355328) (hB : B ≤ w.heap.size) :
    ∃ v' w', (Builtin.append_ #[t, tx] ty #[v, x]).run P w = .ok v' w' ∧ BR w' B v' (xs ++ news) ∧ Below B w w' ∧ Kept w w' v v' ∧ w.heap.size ≤ w'.heap.size := by
  obtain ⟨g, cap, rfl, h1, h2, h3, h4, h5, h6⟩ := h
  have hl := bc_len news
  have hs' : Src P i.size tx x news.length (bc news) w := by rw [hsize]; exact hs
  by_cases hroom : xs.length + news.length ≤ cap
  · have hr := run_append_room_src (P := P) (w := w) t tx ty e i ht hi g 0 xs.length cap x news.length (bc news) hs' hroom (fun j hj => by rw [hsize]; simp only [Nat.zero_add, Nat.mul_one]; exact (h6 _ (by omega)).1) (fun j hj => by rw [hsize]; simp only [Nat.zero_add, Nat.mul_one]; exact (h6 _ (by omega)).2)
    rw [hsize] at hr
    simp only [Nat.zero_add, Nat.mul_one] at hr
    have hsz : (w.setCells g xs.length (bc news)).heap.size = w.heap.size := by
      suffices hq : ∀ (vs : List Value) (o : Nat) (w : World), (w.setCells g o vs).heap.size = w.heap.size from hq _ _ _
      intro vs
      induction vs with
      | nil => intro o w; rfl
      | cons y ys ih => intro o w; rw [World.setCells, ih]; simp
    refine ⟨_, _, hr, ⟨g, cap, by rw [List.length_append], h1, by rw [hsz]; exact h2, by rw [List.length_append]; exact hroom, h4, fun j hj => ?_, fun j hj => ?_⟩, Go.below_setCells h1 (bc news) xs.length w (Below.refl B w), ?_, by rw [hsz]; exact Nat.le_refl _⟩
    · rw [List.length_append] at hj
      by_cases hjx : j < xs.length
      · rw [World.cell?_setCells_out g (bc news) xs.length w ⟨g, j, none⟩ (fun _ _ => .inl hjx), h5 j hjx, List.getElem_append_left hjx]
      · have hin := World.cell?_setCells_in g (bc news) xs.length w (fun j' hj' => (h6 _ (by omega)).1) (j - xs.length) (by omega)
        rw [show xs.length + (j - xs.length) = j from by omega] at hin
        rw [hin, List.getElem_append_right (by omega)]
        simp [bc]
    · refine ⟨World.isSome_setCells g (bc news) xs.length w ⟨g, j, none⟩ (h6 j hj).1, ?_⟩
      rw [World.frozen?_setCells]; exact (h6 j hj).2
    · intro k hk hne
      have hkg : k ≠ g := fun e => hne (by simp [Value.ownBlock, e])
      exact ⟨World.heap_setCells_other w g xs.length (bc news) hk hkg, by simp [Value.ownBlock, hkg]⟩
  · have hold : (Builtin.firstCells i.size xs.length (.slice (some ⟨g, 0, none⟩) xs.length cap)).run P w.drew = .ok (bc xs).toArray w.drew :=
      run_firstCells_some (P := P) w.drew i.size xs.length ⟨g, 0, none⟩ xs.length cap (bc xs) (by rw [hsize, Nat.mul_one, bc_len]) (fun j u hj => by
        rw [addr_add]
        have hjl : j < xs.length := by have := (List.getElem?_eq_some_iff.1 hj).1; rwa [bc_len] at this
        rw [bc_get xs j hjl] at hj
        cases hj
        exact h5 j hjl)
    have hm : xs.length + news.length ≤ maxLen := by unfold maxLen; omega
    have hr := run_append_grow_src (P := P) (w := w) t tx ty e i (.int .u8 0) ht hi hz (some ⟨g, 0, none⟩) xs.length cap (bc xs) hold x news.length (bc news) hs' (by omega) (by omega) (growslice_fits (by omega) (by rw [hby]; omega))
    have hge := grownCap_ge w (xs.length + news.length) cap e
    have hcm := grownCap_le_maxLen w (xs.length + news.length) cap e hm
    generalize grownCap w (xs.length + news.length) cap e = gc at hr hge hcm
    have hblk : ∀ k, k < w.heap.size → (w.drew.alloc (.cells ((bc xs ++ bc news).toArray ++ Builtin.zeroCells (Value.int IntKind.u8 0).cells (gc - (xs.length + news.length))) e)).heap[k]? = w.heap[k]? := fun k hk => Below.heap_alloc w.drew _ k hk
    have hcell : ∀ j, (w.drew.alloc (.cells ((bc xs ++ bc news).toArray ++ Builtin.zeroCells (Value.int IntKind.u8 0).cells (gc - (xs.length + news.length))) e)).cell? ⟨w.heap.size, j, none⟩ = ((bc xs ++ bc news).toArray ++ Builtin.zeroCells (Value.int IntKind.u8 0).cells (gc - (xs.length + news.length)))[j]? := fun j => World.cell?_alloc_new w.drew _ e j
    have hsz2 : ((bc xs ++ bc news).toArray ++ Builtin.zeroCells (Value.int IntKind.u8 0).cells (gc - (xs.length + news.length))).size = gc := by
      rw [Array.size_append, List.size_toArray, List.length_append, bc_len, bc_len, size_zeroCells]
      show xs.length + news.length + (gc - (xs.length + news.length)) * 1 = gc
      omega
    refine ⟨_, _, hr, ⟨w.heap.size, gc, by rw [List.length_append], hB, by simp, by rw [List.length_append]; exact hge, hcm, fun j hj => ?_, fun j hj => ?_⟩, ⟨rfl, rfl, rfl, by simp, fun k hk => hblk k (Nat.lt_of_lt_of_le hk hB)⟩, fun k hk hne => ⟨hblk k hk, by simp [Value.ownBlock]; omega⟩, by simp⟩
    · rw [hcell, Array.getElem?_append_left (by simp only [List.size_toArray, List.length_append, bc_len] at hj ⊢; omega), List.getElem?_toArray]
      have : bc xs ++ bc news = bc (xs ++ news) := by simp [bc]
      rw [this, bc_get _ j hj]
    · rw [hcell, Array.getElem?_eq_getElem (by rw [hsz2]; exact hj)]
      exact ⟨rfl, World.frozen?_alloc_new w.drew _ e j⟩

theorem wpList_append_br {w : World} {ops : Array Oper} {rest : List Oper} {o : Oper} {a : Act} {Q : Exit → Act → World → Prop} (hgd : o.guard = none) (s x : Operand) (t tx : TypeId)
    (ho : o.op = .call { callee := .builtin .append, args := #[s, x], argTypes := #[t, tx] }) (e : TypeId) (i : TypeInfo) (ht : P.underlying t = some (.slice e)) (hi : P.info? e = some i) (hz : i.zero = some (.int .u8 0)) (hsize : i.size = 1) (hby : i.bytes = 1)
    (B : Nat) (v : Value) (xs news : List UInt8) (hv : a.eval s = v) (h : BR w B v xs) (xv : Value) (hx : a.eval x = xv) (hs : Src P 1 tx xv news.length (bc news) w) (hlim : xs.length + news.length ≤ 140737488355328) (hB : B ≤ w.heap.size)
    (hK : ∀ v' w', BR w' B v' (xs ++ news) → Below B w w' → Kept w w' v v' → w.heap.size ≤ w'.heap.size → wpList P ops Q rest (a.put o.dst v') w') : wpList P ops Q (o :: rest) a w := by
  refine wpList_plain hgd fun K hK' => ?_
  obtain ⟨v', w', hrun, r1, r2, r3, r4⟩ := br_append (P := P) w B v xs news xv t tx o.type e i ht hi hz hsize hby h hs hlim hB
  unfold Oper.wp
  simp [execOp, ho, resolve, invoke, builtin, hv, hx, hrun, Result.andThen]
  exact hK' _ _ (hK v' w' r1 r2 r3 r4)
/-- The bytes of a string in a new row. -/
theorem br_bytes (w : World) (e : TypeId) (s : ByteArray) (hm : s.size ≤ maxLen) : BR (Lib.bytesWorld w e s) w.heap.size (.slice (some ⟨w.heap.size, 0, none⟩) s.size (grownCap w s.size 0 e)) s.data.toList := by
  have hge := grownCap_ge w s.size 0 e
  have hcm := grownCap_le_maxLen w s.size 0 e hm
  have hl : s.data.toList.length = s.size := by simp
  refine ⟨w.heap.size, grownCap w s.size 0 e, by rw [hl], Nat.le_refl _, by rw [Lib.bytesWorld_size]; omega, by rw [hl]; exact hge, hcm, fun j hj => ?_, fun j hj => ?_⟩
  · rw [Lib.bytesWorld_cell w e s j (by rwa [hl] at hj)]
    rw [List.getD_eq_getElem?_getD, List.getElem?_eq_getElem hj]; rfl
  · have hb : (Lib.bytesCells w e s).size = grownCap w s.size 0 e := by simp [Lib.bytesCells]; omega
    have hn := Lib.bytesWorld_at_new w e s
    refine ⟨by simp only [World.cell?, hn]; rw [Array.getElem?_eq_getElem (by rw [hb]; exact hj)]; rfl, ?_⟩
    simp only [World.frozen?, hn, hb]
    simp; omega
theorem bytesWorld_below (w : World) (e : TypeId) (s : ByteArray) : Below w.heap.size w (Lib.bytesWorld w e s) :=
  ⟨rfl, rfl, rfl, by rw [Lib.bytesWorld_size]; omega, fun k hk => Lib.bytesWorld_at_old w e s k hk⟩
end
end Go.Proofs.YtfcmgodeehjnoaaDoor
